/- Memory in words: what a slice's cells hold, wherever they lie below a block; kept while nothing below that block turns. Names for the walks of layer 2 and of those above it. -/
/- May a cluster be? The contracts of layer 2's own tests of what comes in. -/
/- The map from spots to their places: what its block holds, what a look-up gives, what a store of a new spot leaves. -/
/- Plain lists: what is in a cluster's spots, node by node; no program is spoken of. -/
/- How a topology grows: add puts a spot behind all others. -/
/- How a topology is made: New goes through a cluster's domains, or refuses it. -/
/- What a topology tells: Nodes, Index, At. -/
/- What a topology tells: All, Spots, Total. -/
/- What a topology tells: Total. -/
/- What laws share: callees at a cluster that came in. -/
import Derived.WalkKit
import Derived.Lib.Hide
import Derived.Below
import Derived.Deep.Draws
import Derived.OwnWalk
import Derived.Test.YtgpfmlidchogcaaGreatMaskZ
import Derived.Test.YtgpfmlidchogcaaGreatKitZ
import Derived.Deep.QuietTactic
import Derived.BigQuiet
import Derived.DeepKeys5
import Derived.Maps.Keyed
import Derived.StillTactics
import Derived.StillTailTactics
import Derived.Deep.DrawnRows
import Derived.Deep.AppendLies
import Derived.Laws.OwnMore
import Derived.Carry
import Derived.Laws.CopyRow
import Derived.Laws.Append
import Derived.Laws.MakeOwn
import Derived.Laws.CopyOwn
namespace Go.Proofs.YtgpfmlidchogcaaGreat
open Go.RowKit


def DomAt (w : World) (b o : Nat) (d : Int × Int) : Prop := w.cell? ⟨b, o, none⟩ = some (.int .i64 d.1) ∧ w.cell? ⟨b, o + 1, none⟩ = some (.int .i64 d.2)
def NodeAt (w : World) (B b o : Nat) (ds : List (Int × Int)) : Prop :=
 ∃ A c, w.cell? ⟨b, o, none⟩ = some (.slice A ds.length c) ∧ ds.length ≤ c ∧ c ≤ maxLen ∧ Rows B A (DomAt w) 2 ds
structure Fr where
 n : Nat
 d : Nat
 m : Nat
 c : Nat
def FrAt (w : World) (b o : Nat) (f : Fr) : Prop :=
 w.cell? ⟨b, o, none⟩ = some (.int .i64 f.n) ∧ w.cell? ⟨b, o + 1, none⟩ = some (.int .i64 f.d) ∧ w.cell? ⟨b, o + 2, none⟩ = some (.int .u64 f.m) ∧ w.cell? ⟨b, o + 3, none⟩ = some (.int .i64 f.c)
def SpAt (w : World) (b o : Nat) (f : Nat × Nat) : Prop := w.cell? ⟨b, o, none⟩ = some (.int .i64 f.1) ∧ w.cell? ⟨b, o + 1, none⟩ = some (.int .i64 f.2)

abbrev Doms (w : World) (B : Nat) (A : Option Addr) (ds : List (Int × Int)) : Prop := Rows B A (DomAt w) 2 ds
abbrev Nodes (w : World) (B : Nat) (A : Option Addr) (ns : List (List (Int × Int))) : Prop := Rows B A (NodeAt w B) 1 ns
abbrev Frees (w : World) (B : Nat) (A : Option Addr) (l : List Fr) : Prop := Rows B A (FrAt w) 4 l
abbrev Spots (w : World) (B : Nat) (A : Option Addr) (l : List (Nat × Nat)) : Prop := Rows B A (SpAt w) 2 l

section
variable {w w' : World} {B B' b o : Nat} {A : Option Addr}
theorem DomAt.keep {d : Int × Int} (h : DomAt w b o d) (hb : b < B) (hk : Below B w w') : DomAt w' b o d :=
 ⟨(hk.cell (p := ⟨b, o, none⟩) hb).trans h.1, (hk.cell (p := ⟨b, o + 1, none⟩) hb).trans h.2⟩
theorem FrAt.keep {f : Fr} (h : FrAt w b o f) (hb : b < B) (hk : Below B w w') : FrAt w' b o f :=
 ⟨(hk.cell (p := ⟨b, o, none⟩) hb).trans h.1, (hk.cell (p := ⟨b, o + 1, none⟩) hb).trans h.2.1, (hk.cell (p := ⟨b, o + 2, none⟩) hb).trans h.2.2.1, (hk.cell (p := ⟨b, o + 3, none⟩) hb).trans h.2.2.2⟩
theorem SpAt.keep {f : Nat × Nat} (h : SpAt w b o f) (hb : b < B) (hk : Below B w w') : SpAt w' b o f :=
 ⟨(hk.cell (p := ⟨b, o, none⟩) hb).trans h.1, (hk.cell (p := ⟨b, o + 1, none⟩) hb).trans h.2⟩
theorem Doms.keep {ds : List (Int × Int)} (h : Doms w B A ds) (hk : Below B w w') (hB : B ≤ B') : Doms w' B' A ds := h.imp hB fun _ _ _ hb hd => hd.keep hb hk
theorem NodeAt.keep {ds : List (Int × Int)} (h : NodeAt w B b o ds) (hb : b < B) (hk : Below B w w') (hB : B ≤ B') : NodeAt w' B' b o ds := by
 obtain ⟨A, c, h1, h2, h3, h4⟩ := h
 exact ⟨A, c, (hk.cell (p := ⟨b, o, none⟩) hb).trans h1, h2, h3, Doms.keep h4 hk hB⟩
theorem Nodes.keep {ns : List (List (Int × Int))} (h : Nodes w B A ns) (hk : Below B w w') (hB : B ≤ B') : Nodes w' B' A ns := h.imp hB fun _ _ _ hb hd => hd.keep hb hk hB
theorem Frees.keep {l : List Fr} (h : Frees w B A l) (hk : Below B w w') (hB : B ≤ B') : Frees w' B' A l := h.imp hB fun _ _ _ hb hd => hd.keep hb hk
theorem Spots.keep {l : List (Nat × Nat)} (h : Spots w B A l) (hk : Below B w w') (hB : B ≤ B') : Spots w' B' A l := h.imp hB fun _ _ _ hb hd => hd.keep hb hk
end

end Go.Proofs.YtgpfmlidchogcaaGreat

namespace Go.Proofs.YtgpfmlidchogcaaGreat
open Go.RowKit
def inB (n a b : Int) : Bool := decide (a ≤ n) && decide (n ≤ b)
theorem within_any (n a b : Int) (r : Bool) (hr : inB n a b = r) (w : World) :
  Calls Tryz.prog 134 #[.int .i64 n, .int .i64 a, .int .i64 b] w fun e w' => e = .returned (.bool r) ∧ w = w' := by
 unfold inB at hr
 by_cases h1 : a ≤ n
 ·by_cases h2 : n ≤ b
  ·have e1 : decide (a ≤ n) = true := by simpa using h1
   have e2 : decide (n ≤ b) = true := by simpa using h2
   rw [e1, e2] at hr
   subst hr
   go_enter Tryz.func134, Tryz.ntmps134
   go_wp2
   go_ret
   exact ⟨rfl, rfl⟩
  ·have e1 : decide (a ≤ n) = true := by simpa using h1
   have e2 : decide (n ≤ b) = false := by simpa using h2
   rw [e1, e2] at hr
   subst hr
   go_enter Tryz.func134, Tryz.ntmps134
   go_wp2
   go_ret
   exact ⟨rfl, rfl⟩
 ·have e1 : decide (a ≤ n) = false := by simpa using h1
  rw [e1] at hr
  subst hr
  go_enter Tryz.func134, Tryz.ntmps134
  go_wp2
  go_ret
  exact ⟨rfl, rfl⟩

def domOk (d : Int × Int) : Bool := inB d.1 0 16 && inB d.2 0 1024
def nodeOk (ds : List (Int × Int)) : Bool := inB ds.length 1 4 && ds.all domOk
def cluOk (ns : List (List (Int × Int))) : Bool := inB ns.length 1 16 && ns.all nodeOk
theorem ret_bool {a b : Bool} (h : a = b) : Ending.returned (.bool a) = .returned (.bool b) := by rw [h]
set_option maxRecDepth 100000 in
set_option maxHeartbeats 1000000 in
theorem node_loop (b off c B n : Nat) (ds : List (Int × Int)) (hn : ds.length = n) (w : World) (hb : b < B) (hc : ∀ i x, ds[i]? = some x → DomAt w b (off + i * 2) x) (hB : B ≤ w.heap.size) (h1 : 1 ≤ n) (h4 : n ≤ 4) (r : Bool) (hr : ds.all domOk = r) :
  Calls Tryz.prog 135 #[.agg #[.slice (some ⟨b, off, none⟩) n c]] w fun e w' => e = .returned (.bool r) ∧ Below w.heap.size w w' := by
 have q1 := Lib.hid (within_any (n : Int) 1 4 true (by simp [inB]; omega))
 have Q := Lib.hid (And.intro hn (And.intro hc hr))
 clear hn hc hr
 go_enter Tryz.func135, Tryz.ntmps135
 go_wp2_with (go_at_call 134; with_reducible refine (q1.out _).mono ?_; rintro e w' ⟨rfl, rfl⟩)
 go_loopw [13] (fun i wr => ∃ k : Nat, i = .int .i64 k ∧ k ≤ n ∧ Below w.heap.size w wr ∧ Hid ((ds.take k).all domOk = true)) (fun i _ => n - (intOf i).toNat)
 case atStart => exact ⟨0, rfl, by omega, (Below.refl _ _).alloc (Nat.le_refl _) _, Lib.hid rfl⟩
 case round =>
  obtain ⟨k, rfl, hk, hBl, hall⟩ := hrel
  have hBs := hBl.size
  by_cases hlt : k < n
  ·obtain ⟨⟨g, p⟩, hx⟩ := get_lt (l := ds) (by rw [Q.out.1]; exact hlt)
   have hd := (Q.out.2.1 k _ hx).keep (B := w.heap.size) (by omega) hBl
   obtain ⟨c0, c1⟩ := hd
   have t0 : decide (k < n) = true := by simpa using hlt
   have X := Lib.hid hx
   clear hx
   by_cases hg : inB g 0 16 = true
   ·have q2 := Lib.hid (within_any g 0 16 true hg)
    by_cases hp : inB p 0 1024 = true
    ·have q3 := Lib.hid (within_any p 0 1024 true hp)
     have N := Lib.hid (all_next X.out hall.out (by simp [domOk, hg, hp]))
     clear hg hp
     go_wp2_with (go_at_call 134; first | ((with_reducible refine (q2.out _).mono ?_); rintro e w' ⟨rfl, rfl⟩) | ((with_reducible refine (q3.out _).mono ?_); rintro e w' ⟨rfl, rfl⟩))
     go_round
     case rel => exact ⟨k + 1, by go_num, by omega, hBl.alloc hBs _, N⟩
     case measure => simp [intOf]; omega
    ·have q3 := Lib.hid (within_any p 0 1024 false (by simpa using hp))
     have N := Lib.hid (all_no (p := domOk) X.out (by simp [domOk, hp]))
     clear hg hp
     go_wp2_with (go_at_call 134; first | ((with_reducible refine (q2.out _).mono ?_); rintro e w' ⟨rfl, rfl⟩) | ((with_reducible refine (q3.out _).mono ?_); rintro e w' ⟨rfl, rfl⟩))
     go_ret
     exact ⟨ret_bool (N.out.symm.trans Q.out.2.2), hBl.alloc hBs _⟩
   ·have q2 := Lib.hid (within_any g 0 16 false (by simpa using hg))
    have N := Lib.hid (all_no (p := domOk) X.out (by simp [domOk, hg]))
    clear hg
    go_wp2_with (go_at_call 134; (with_reducible refine (q2.out _).mono ?_); rintro e w' ⟨rfl, rfl⟩)
    go_ret
    exact ⟨ret_bool (N.out.symm.trans Q.out.2.2), hBl.alloc hBs _⟩
  ·obtain rfl : k = n := by omega
   have N := hall.out
   rw [← Q.out.1] at N
   have N := Lib.hid (all_end N)
   clear hlt
   go_wp2
   go_ret
   exact ⟨ret_bool (N.out.symm.trans Q.out.2.2), hBl⟩
theorem node_no (A : Option Addr) (n c : Nat) (hn : inB n 1 4 = false) (w : World) :
  Calls Tryz.prog 135 #[.agg #[.slice A n c]] w fun e w' => e = .returned (.bool false) ∧ Below w.heap.size w w' := by
 have q1 := Lib.hid (within_any (n : Int) 1 4 false hn)
 clear hn
 go_enter Tryz.func135, Tryz.ntmps135
 go_wp2_with (go_at_call 134; with_reducible refine (q1.out _).mono ?_; rintro e w' ⟨rfl, rfl⟩)
 go_ret
 exact ⟨rfl, (Below.refl _ _).alloc (Nat.le_refl _) _⟩
theorem node_any (A : Option Addr) (c B : Nat) (ds : List (Int × Int)) (w : World) (h : Doms w B A ds) (hB : B ≤ w.heap.size) (r : Bool) (hr : nodeOk ds = r) :
  Calls Tryz.prog 135 #[.agg #[.slice A ds.length c]] w fun e w' => e = .returned (.bool r) ∧ Below w.heap.size w w' := by
 by_cases h1 : inB ds.length 1 4 = true
 ·have h2 := h1
  simp [inB] at h2
  obtain ⟨x, hx⟩ := get_lt (l := ds) (k := 0) (by omega)
  obtain ⟨b, off, rfl, hb, hc⟩ := h.at_ hx
  exact node_loop b off c B ds.length ds rfl w hb hc hB (by omega) (by omega) r (by rw [← hr]; simp [nodeOk, h1])
 ·have h2 : inB ds.length 1 4 = false := by simpa using h1
  have : r = false := by rw [← hr]; simp [nodeOk, h2]
  subst this
  exact node_no A _ c h2 w
set_option maxRecDepth 100000 in
set_option maxHeartbeats 1000000 in
theorem clu_loop (b off c B n : Nat) (ns : List (List (Int × Int))) (hn : ns.length = n) (w : World) (hb : b < B) (hc : ∀ i x, ns[i]? = some x → NodeAt w B b (off + i * 1) x) (hB : B ≤ w.heap.size) (h1 : 1 ≤ n) (h4 : n ≤ 16) (r : Bool) (hr : ns.all nodeOk = r) :
  Calls Tryz.prog 100 #[.agg #[.slice (some ⟨b, off, none⟩) n c]] w fun e w' => e = .returned (.bool r) ∧ Below w.heap.size w w' := by
 have q1 := Lib.hid (within_any (n : Int) 1 16 true (by simp [inB]; omega))
 have Q := Lib.hid (And.intro hn (And.intro hc hr))
 clear hn hc hr
 go_enter Tryz.func100, Tryz.ntmps100
 go_wp2_with (go_at_call 134; with_reducible refine (q1.out _).mono ?_; rintro e w' ⟨rfl, rfl⟩)
 go_loopw [13] (fun i wr => ∃ k : Nat, i = .int .i64 k ∧ k ≤ n ∧ Below w.heap.size w wr ∧ Hid ((ns.take k).all nodeOk = true)) (fun i _ => n - (intOf i).toNat)
 case atStart => exact ⟨0, rfl, by omega, (Below.refl _ _).alloc (Nat.le_refl _) _, Lib.hid rfl⟩
 case round =>
  obtain ⟨k, rfl, hk, hBl, hall⟩ := hrel
  have hBs := hBl.size
  by_cases hlt : k < n
  ·obtain ⟨ds, hx⟩ := get_lt (l := ns) (by rw [Q.out.1]; exact hlt)
   obtain ⟨A', c', c0, hl1, hl2, hds⟩ := (Q.out.2.1 k _ hx).keep (B' := w.heap.size) hb (hBl.mono hB) hB
   rw [Nat.mul_one] at c0
   have t0 : decide (k < n) = true := by simpa using hlt
   have X := Lib.hid hx
   clear hx
   have NA := fun (r : Bool) (hr : nodeOk ds = r) => Lib.hid (fun (W : World) (hW : Below w.heap.size wr W) => node_any A' c' w.heap.size ds W (Doms.keep hds hW (Nat.le_refl _)) (by have := hW.size; omega) r hr)
   have hD := Lib.hid (And.intro hds (And.intro hl1 hl2))
   clear hds hl1 hl2
   cases hg : nodeOk ds
   ·have NA := NA _ hg
    have N := Lib.hid (all_no (p := nodeOk) X.out hg)
    clear hg
    go_wp2_with (go_at_call 135; refine (NA.out _ ((Below.refl _ _).alloc hBs _)).mono ?_; rintro e w2 ⟨rfl, hb2⟩)
    go_ret
    exact ⟨ret_bool (N.out.symm.trans Q.out.2.2), below_step (hBl.alloc hBs _) hb2⟩
   ·have NA := NA _ hg
    have N := Lib.hid (all_next X.out hall.out hg)
    clear hg
    go_wp2_with (go_at_call 135; refine (NA.out _ ((Below.refl _ _).alloc hBs _)).mono ?_; rintro e w2 ⟨rfl, hb2⟩)
    go_roundw
    case rel => exact ⟨k + 1, by go_num, by omega, below_step (hBl.alloc hBs _) hb2, N⟩
    case measure => simp [intOf]; omega
  ·obtain rfl : k = n := by omega
   have N := hall.out
   rw [← Q.out.1] at N
   have N := Lib.hid (all_end N)
   clear hlt
   go_wp2
   go_ret
   exact ⟨ret_bool (N.out.symm.trans Q.out.2.2), hBl⟩
theorem clu_no (A : Option Addr) (n c : Nat) (hn : inB n 1 16 = false) (w : World) :
  Calls Tryz.prog 100 #[.agg #[.slice A n c]] w fun e w' => e = .returned (.bool false) ∧ Below w.heap.size w w' := by
 have q1 := Lib.hid (within_any (n : Int) 1 16 false hn)
 clear hn
 go_enter Tryz.func100, Tryz.ntmps100
 go_wp2_with (go_at_call 134; with_reducible refine (q1.out _).mono ?_; rintro e w' ⟨rfl, rfl⟩)
 go_ret
 exact ⟨rfl, (Below.refl _ _).alloc (Nat.le_refl _) _⟩
theorem clu_any (A : Option Addr) (c B : Nat) (ns : List (List (Int × Int))) (w : World) (h : Nodes w B A ns) (hB : B ≤ w.heap.size) (r : Bool) (hr : cluOk ns = r) :
  Calls Tryz.prog 100 #[.agg #[.slice A ns.length c]] w fun e w' => e = .returned (.bool r) ∧ Below w.heap.size w w' := by
 by_cases h1 : inB ns.length 1 16 = true
 ·have h2 := h1
  simp [inB] at h2
  obtain ⟨x, hx⟩ := get_lt (l := ns) (k := 0) (by omega)
  obtain ⟨b, off, rfl, hb, hc⟩ := h.at_ hx
  exact clu_loop b off c B ns.length ns rfl w hb hc hB (by omega) (by omega) r (by rw [← hr]; simp [cluOk, h1])
 ·have h2 : inB ns.length 1 16 = false := by simpa using h1
  have : r = false := by rw [← hr]; simp [cluOk, h2]
  subst this
  exact clu_no A _ c h2 w
/-! Right: the document's answer. -/
theorem dom_five (g p : Int) : (domOk (g, p) = false ∧ (g < 0 ∨ (0 ≤ g ∧ 16 < g) ∨ (0 ≤ g ∧ g ≤ 16 ∧ p < 0) ∨ (0 ≤ g ∧ g ≤ 16 ∧ 0 ≤ p ∧ 1024 < p))) ∨ (domOk (g, p) = true ∧ 0 ≤ g ∧ g ≤ 16 ∧ 0 ≤ p ∧ p ≤ 1024) := by
 unfold domOk inB
 by_cases h1 : 0 ≤ g <;> by_cases h2 : g ≤ 16 <;> by_cases h3 : 0 ≤ p <;> by_cases h4 : p ≤ 1024 <;> simp [h1, h2, h3, h4] <;> omega
set_option maxRecDepth 100000 in
set_option maxHeartbeats 2000000 in
theorem right_loop (b off c B n : Nat) (ns : List (List (Int × Int))) (hn : ns.length = n) (w : World) (hb : b < B) (hc : ∀ i x, ns[i]? = some x → NodeAt w B b (off + i * 1) x) (hB : B ≤ w.heap.size) (h1 : 1 ≤ n) (h4 : n ≤ 16) (r : Bool) (hr : ns.all nodeOk = r) :
  Calls Tryz.prog 15 #[.agg #[.slice (some ⟨b, off, none⟩) n c]] w fun e w' => e = .returned (.bool r) ∧ Below w.heap.size w w' := by
 have Q := Lib.hid (And.intro hn (And.intro hc hr))
 clear hn hc hr
 have s1 : decide ((n : Int) < 1) = false := by simp; omega
 have s2 : decide (16 < (n : Int)) = false := by simp; omega
 go_enter Tryz.func15, Tryz.ntmps15
 go_wp2
 go_loopw [3] (fun i wr => ∃ k : Nat, i = .int .i64 k ∧ k ≤ n ∧ Below w.heap.size w wr ∧ wr.cell? ⟨w.heap.size, 0, none⟩ = some (.slice (some ⟨b, off, none⟩) n c) ∧ Hid ((ns.take k).all nodeOk = true)) (fun i _ => n - (intOf i).toNat)
 case atStart => exact ⟨0, rfl, by omega, (Below.refl _ _).alloc (Nat.le_refl _) _, by go_simp, Lib.hid rfl⟩
 case round =>
  obtain ⟨k, rfl, hk, hBl, hbox, hall⟩ := hrel
  have hBs := hBl.size
  by_cases hlt : k < n
  ·obtain ⟨ds, hx⟩ := get_lt (l := ns) (by rw [Q.out.1]; exact hlt)
   obtain ⟨A', c', c0, hl1, hl2, hds⟩ := (Q.out.2.1 k _ hx).keep (B' := w.heap.size) hb (hBl.mono hB) hB
   rw [Nat.mul_one] at c0
   have t0 : decide (k < n) = true := by simpa using hlt
   have X := Lib.hid hx
   have hD := Lib.hid (And.intro hl1 hl2)
   clear hx hl1 hl2
   by_cases hg : inB ds.length 1 4 = true
   ·have hg' := hg
    simp [inB] at hg'
    obtain ⟨y, hy⟩ := get_lt (l := ds) (k := 0) (by omega)
    obtain ⟨b', off', rfl, hb', hc'⟩ := hds.at_ hy
    clear hy
    obtain ⟨m, hm⟩ : ∃ m, ds.length = m := ⟨_, rfl⟩
    have M := Lib.hid hm
    have HG := Lib.hid hg
    rw [hm] at c0 hg'
    have u1 : decide ((m : Int) < 1) = false := by simp; omega
    have u2 : decide (4 < (m : Int)) = false := by simp; omega
    have D := Lib.hid hc'
    clear hm hg hc'
    go_wp2
    go_loopw [5] (fun i wr' => ∃ j : Nat, i = .int .i64 j ∧ j ≤ m ∧ wr' = wr ∧ Hid ((ds.take j).all domOk = true)) (fun i _ => m - (intOf i).toNat)
    case atStart => exact ⟨0, rfl, by omega, rfl, Lib.hid rfl⟩
    case round =>
     obtain ⟨j, rfl, hj, rfl, hall2⟩ := hrel
     by_cases hjl : j < m
     ·obtain ⟨⟨g, p⟩, hy⟩ := get_lt (l := ds) (by rw [M.out]; exact hjl)
      obtain ⟨d0, d1⟩ := D.out j _ hy
      have s0 : decide (j < m) = true := by simpa using hjl
      have Y := Lib.hid hy
      clear hy
      rcases dom_five g p with ⟨e, h⟩ | ⟨e, h⟩
      ·have N := Lib.hid (all_no (p := domOk) Y.out e)
       have N2 := Lib.hid (all_no (p := nodeOk) X.out (by unfold nodeOk; rw [N.out]; simp))
       clear e
       rcases h with h | ⟨_, h⟩ | ⟨h, h', h''⟩ | ⟨h, h', h'', h3⟩
       ·have v1 : decide (g < 0) = true := by simpa using h
        go_wp2
        go_ret
        exact ⟨ret_bool (N2.out.symm.trans Q.out.2.2), hBl⟩
       ·have v1 : decide (g < 0) = false := by simp; omega
        have v2 : decide (16 < g) = true := by simpa using h
        go_wp2
        go_ret
        exact ⟨ret_bool (N2.out.symm.trans Q.out.2.2), hBl⟩
       ·have v1 : decide (g < 0) = false := by simp; omega
        have v2 : decide (16 < g) = false := by simp; omega
        have v3 : decide (p < 0) = true := by simp; omega
        go_wp2
        go_ret
        exact ⟨ret_bool (N2.out.symm.trans Q.out.2.2), hBl⟩
       ·have v1 : decide (g < 0) = false := by simp; omega
        have v2 : decide (16 < g) = false := by simp; omega
        have v3 : decide (p < 0) = false := by simp; omega
        have v4 : decide (1024 < p) = true := by simp; omega
        go_wp2
        go_ret
        exact ⟨ret_bool (N2.out.symm.trans Q.out.2.2), hBl⟩
      ·have N := Lib.hid (all_next Y.out hall2.out e)
       clear e
       have v1 : decide (g < 0) = false := by simp; omega
       have v2 : decide (16 < g) = false := by simp; omega
       have v3 : decide (p < 0) = false := by simp; omega
       have v4 : decide (1024 < p) = false := by simp; omega
       go_wp2
       go_roundw
       case rel => exact ⟨j + 1, by go_num, by omega, by trivial, N⟩
       case measure => simp [intOf]; omega
     ·obtain rfl : j = m := by omega
      have N := hall2.out
      rw [← M.out] at N
      have N2 := Lib.hid (all_next X.out hall.out (show nodeOk ds = true by unfold nodeOk; rw [HG.out, all_end N]; rfl))
      clear hjl N
      go_wp2
      go_roundw
      case rel => exact ⟨k + 1, by go_num, by omega, hBl, hbox, N2⟩
      case measure => simp [intOf]; omega
   ·have N := Lib.hid (all_no (p := nodeOk) X.out (by unfold nodeOk; simp [hg]))
    by_cases h0 : ds.length < 1
    ·have u1 : decide ((ds.length : Int) < 1) = true := by simp; omega
     clear hg hds
     go_wp2
     go_ret
     exact ⟨ret_bool (N.out.symm.trans Q.out.2.2), hBl⟩
    ·have u1 : decide ((ds.length : Int) < 1) = false := by simp; omega
     have u2 : decide (4 < (ds.length : Int)) = true := by simp [inB] at hg; simp; omega
     clear hg hds
     go_wp2
     go_ret
     exact ⟨ret_bool (N.out.symm.trans Q.out.2.2), hBl⟩
  ·obtain rfl : k = n := by omega
   have N := hall.out
   rw [← Q.out.1] at N
   have N := Lib.hid (all_end N)
   clear hlt
   go_wp2
   go_ret
   exact ⟨ret_bool (N.out.symm.trans Q.out.2.2), hBl⟩
theorem right_no (A : Option Addr) (n c : Nat) (hn : inB n 1 16 = false) (w : World) :
  Calls Tryz.prog 15 #[.agg #[.slice A n c]] w fun e w' => e = .returned (.bool false) ∧ Below w.heap.size w w' := by
 simp [inB] at hn
 by_cases h0 : n < 1
 ·have u1 : decide ((n : Int) < 1) = true := by simp; omega
  clear hn
  go_enter Tryz.func15, Tryz.ntmps15
  go_wp2
  go_ret
  exact ⟨rfl, (Below.refl _ _).alloc (Nat.le_refl _) _⟩
 ·have u1 : decide ((n : Int) < 1) = false := by simp; omega
  have u2 : decide (16 < (n : Int)) = true := by simp; omega
  clear hn
  go_enter Tryz.func15, Tryz.ntmps15
  go_wp2
  go_ret
  exact ⟨rfl, (Below.refl _ _).alloc (Nat.le_refl _) _⟩
theorem right_any (A : Option Addr) (c B : Nat) (ns : List (List (Int × Int))) (w : World) (h : Nodes w B A ns) (hB : B ≤ w.heap.size) (r : Bool) (hr : cluOk ns = r) :
  Calls Tryz.prog 15 #[.agg #[.slice A ns.length c]] w fun e w' => e = .returned (.bool r) ∧ Below w.heap.size w w' := by
 by_cases h1 : inB ns.length 1 16 = true
 ·have h2 := h1
  simp [inB] at h2
  obtain ⟨x, hx⟩ := get_lt (l := ns) (k := 0) (by omega)
  obtain ⟨b, off, rfl, hb, hc⟩ := h.at_ hx
  exact right_loop b off c B ns.length ns rfl w hb hc hB (by omega) (by omega) r (by rw [← hr]; simp [cluOk, h1])
 ·have h2 : inB ns.length 1 16 = false := by simpa using h1
  have : r = false := by rw [← hr]; simp [cluOk, h2]
  subst this
  exact right_no A _ c h2 w
end Go.Proofs.YtgpfmlidchogcaaGreat

namespace Go.Proofs.YtgpfmlidchogcaaGreat
open Go.RowKit
open Go.ChangeMaps (setBlock heap_setBlock_same heap_setBlock_other)

def spotV (a b : Int) : Value := .agg #[.int .i64 a, .int .i64 b]
theorem laidOut : laidOutB Tryz.prog = true := by kernel_rfl
theorem spotLaw : Maps.Keyed Tryz.prog 38 :=
 Maps.Keyed.of_law (deep_law_gate laidOut (of_decide_eq_true (by kernel_rfl)) (of_decide_eq_true (by kernel_rfl)) (by kernel_rfl) (by kernel_rfl))
theorem wf_nat {n : Nat} (h : n < 9223372036854775808) : (Lit.int .i64 (n : Int)).wf = true := by
 refine WalkArith.wf_i64 ?_; omega
theorem key_two {P : Program} {k e : TypeId} {fs : Array Field} {f0 f1 : Field} {m : Nat} (hk : P.underlying k = some (.struct fs)) (hf : fs = #[f0, f1]) (ht0 : f0.type = e) (ht1 : f1.type = e) (ho0 : f0.offset = 0) (ho1 : f1.offset = 1)
  (hn0 : f0.name ≠ "_") (hn1 : f1.name ≠ "_") (he : P.underlying e = some (.int .i64)) (hkt : P.keyType k = true) (hs : P.types.size = m + 1) (c1 : P.cellsOf k = 2) (c2 : P.cellsOf e = 1)
  {a b : Int} (ha : (Lit.int .i64 a).wf = true) (hb : (Lit.int .i64 b).wf = true) : ∃ l, keyOf P k (.agg #[.int .i64 a, .int .i64 b]) = some l := by
 subst hf
 unfold keyOf
 simp only [hk]
 rw [hs]
 simp [hkt, Value.formed, hk, Program.keyLits, c1, c2, Value.cells, ha, hb, he, ht0, ht1, ho0, ho1, hn0, hn1]
theorem spotKey {a b : Int} (ha : (Lit.int .i64 a).wf = true) (hb : (Lit.int .i64 b).wf = true) : ∃ l, keyOf Tryz.prog 38 (spotV a b) = some l :=
 key_two (e := 3) (m := Tryz.prog.types.size - 1) Tryz.underlying38 rfl rfl rfl rfl rfl (by decide) (by decide) Tryz.underlying3 (by kernel_rfl) (by kernel_rfl) (by kernel_rfl) (by kernel_rfl) ha hb
theorem spotV_inj {a b c d : Int} (h : spotV a b = spotV c d) : a = c ∧ b = d := by
 unfold spotV at h
 simp at h
 exact h

def MapAt (w : World) (m : Nat) (sp : List (Nat × Nat)) : Prop :=
 ∃ es clock, w.heap[m]? = some (.map es clock) ∧ es.toList.map (fun e => (e.key, e.val)) = sp.zipIdx.map (fun p => (spotV (p.1.1 : Nat) (p.1.2 : Nat), Value.int .i64 (p.2 : Nat))) ∧ ∀ s ∈ sp, s.1 < 4611686018427387904 ∧ s.2 < 4611686018427387904
theorem MapAt.lt {w : World} {m : Nat} {sp : List (Nat × Nat)} (h : MapAt w m sp) : m < w.heap.size := by
 obtain ⟨es, clock, hb, _⟩ := h
 exact (Array.getElem?_eq_some_iff.1 hb).1
theorem MapAt.of_block {w w' : World} {m : Nat} {sp : List (Nat × Nat)} (h : MapAt w m sp) (e : w'.heap[m]? = w.heap[m]?) : MapAt w' m sp := by
 obtain ⟨es, clock, hb, h2⟩ := h
 exact ⟨es, clock, e.trans hb, h2⟩
theorem MapAt.keys {sp : List (Nat × Nat)} {es : Array MapEntry} (h : es.toList.map (fun e => (e.key, e.val)) = sp.zipIdx.map (fun p => (spotV (p.1.1 : Nat) (p.1.2 : Nat), Value.int .i64 (p.2 : Nat))))
  (hs : ∀ s ∈ sp, s.1 < 4611686018427387904 ∧ s.2 < 4611686018427387904) : ∀ e ∈ es.toList, ∃ l, keyOf Tryz.prog 38 e.key = some l := by
 intro e he
 have hm : (e.key, e.val) ∈ es.toList.map (fun e => (e.key, e.val)) := List.mem_map.2 ⟨e, he, rfl⟩
 rw [h] at hm
 obtain ⟨p, hp, e1⟩ := List.mem_map.1 hm
 have hp1 : p.1 ∈ sp := by
  have := List.mem_zipIdx' hp
  have e := List.getElem_mem this.1
  rwa [← this.2] at e
 obtain ⟨b1, b2⟩ := hs _ hp1
 rw [show e.key = spotV (p.1.1 : Nat) (p.1.2 : Nat) from (congrArg Prod.fst e1).symm]
 exact spotKey (wf_nat (by omega)) (wf_nat (by omega))
theorem MapAt.new (w : World) : MapAt (w.alloc (.map #[] 0)) w.heap.size [] := ⟨#[], 0, (MapKept.heap_alloc w _).1, rfl, by simp⟩

theorem MapAt.look_hit {w : World} {m i : Nat} {sp : List (Nat × Nat)} {s : Nat × Nat} (h : MapAt w m sp) (hi : sp[i]? = some s) (hn : sp.Nodup) :
  (Instr.lookup 169 (.map (some m)) (.agg #[.int .i64 (s.1 : Nat), .int .i64 (s.2 : Nat)]) true).run Tryz.prog w = .ok (.tuple #[.int .i64 (i : Nat), .bool true]) w := by
 obtain ⟨es, clock, hb, hes, hs⟩ := h
 obtain ⟨b1, b2⟩ := hs s (List.mem_of_getElem? hi)
 obtain ⟨l, hl⟩ := spotKey (a := s.1) (b := s.2) (wf_nat (by omega)) (wf_nat (by omega))
 have hil : i < sp.length := (List.getElem?_eq_some_iff.1 hi).1
 have hat : es.toList[i]?.map (fun e => (e.key, e.val)) = some (spotV (s.1 : Nat) (s.2 : Nat), Value.int .i64 (i : Nat)) := by
  rw [← List.getElem?_map, hes, List.getElem?_map, List.getElem?_zipIdx, hi]; simp
 rcases spotLaw.find w hl es.toList (MapAt.keys hes hs) with ⟨_, h2⟩ | ⟨j, e0, h1, h2, h3⟩
 ·obtain ⟨e, he, hee⟩ := Option.map_eq_some_iff.1 hat
  exact absurd (congrArg Prod.fst hee) (h2 e (List.mem_of_getElem? he))
 ·have hj : es.toList[j]?.map (fun e => (e.key, e.val)) = some (spotV (s.1 : Nat) (s.2 : Nat), e0.val) := by rw [h2, ← h3]; rfl
  rw [← List.getElem?_map, hes, List.getElem?_map, List.getElem?_zipIdx] at hj
  cases hsj : sp[j]? with
  | none => rw [hsj] at hj; simp at hj
  | some s' =>
   rw [hsj] at hj
   simp at hj
   obtain ⟨g1, g2⟩ := hj
   obtain ⟨g3, g4⟩ := spotV_inj g1
   have hss : s' = s := by
    cases s; cases s'; simp at g3 g4; simp; omega
   subst hss
   have hjl : j < sp.length := (List.getElem?_eq_some_iff.1 hsj).1
   have hij : i = j := by
    have e1 := (List.getElem?_eq_some_iff.1 hsj).2
    have e2 := (List.getElem?_eq_some_iff.1 hi).2
    have hp := List.pairwise_iff_getElem.1 hn
    rcases Nat.lt_trichotomy i j with h | h | h
    ·exact absurd (e2.trans e1.symm) (hp i j hil hjl h)
    ·exact h
    ·exact absurd (e1.trans e2.symm) (hp j i hjl hil h)
   subst hij
   have h1' := h1
   rw [show spotV (s'.1 : Nat) (s'.2 : Nat) = Value.agg #[.int .i64 (s'.1 : Nat), .int .i64 (s'.2 : Nat)] from rfl] at h1' hl
   simp [Instr.lookup, run_underlying Tryz.underlying169, MapKept.run_getObj_map hb, spotLaw.check w _ hl, h1', Result.andThen, ← g2]
theorem MapAt.look_miss {w : World} {m : Nat} {sp : List (Nat × Nat)} {a b : Int} (h : MapAt w m sp) (ha : (Lit.int .i64 a).wf = true) (hb' : (Lit.int .i64 b).wf = true) (hno : ∀ s ∈ sp, ¬ ((s.1 : Int) = a ∧ (s.2 : Int) = b)) :
  (Instr.lookup 169 (.map (some m)) (.agg #[.int .i64 a, .int .i64 b]) true).run Tryz.prog w = .ok (.tuple #[.int .i64 0, .bool false]) w := by
 obtain ⟨es, clock, hb, hes, hs⟩ := h
 obtain ⟨l, hl⟩ := spotKey ha hb'
 rcases spotLaw.find w hl es.toList (MapAt.keys hes hs) with ⟨h1, h2⟩ | ⟨j, e0, h1, h2, h3⟩
 ·have h1' := h1
  rw [show spotV a b = Value.agg #[.int .i64 a, .int .i64 b] from rfl] at h1' hl
  simp [Instr.lookup, run_underlying Tryz.underlying169, MapKept.run_getObj_map hb, spotLaw.check w _ hl, h1', Result.andThen]
 ·exfalso
  have hj : es.toList[j]?.map (fun e => (e.key, e.val)) = some (spotV a b, e0.val) := by rw [h2, ← h3]; rfl
  rw [← List.getElem?_map, hes, List.getElem?_map, List.getElem?_zipIdx] at hj
  cases hsj : sp[j]? with
  | none => rw [hsj] at hj; simp at hj
  | some s' =>
   rw [hsj] at hj
   simp at hj
   exact hno s' (List.mem_of_getElem? hsj) (spotV_inj hj.1)
theorem MapAt.put {w : World} {m : Nat} {sp : List (Nat × Nat)} {s : Nat × Nat} (h : MapAt w m sp) (h1 : s.1 < 4611686018427387904) (h2 : s.2 < 4611686018427387904) (hno : s ∉ sp) :
  ∃ w', (Instr.mapUpdate 169 (.map (some m)) (.agg #[.int .i64 (s.1 : Nat), .int .i64 (s.2 : Nat)]) (.int .i64 (sp.length : Nat))).run Tryz.prog w = .ok () w' ∧ MapAt w' m (sp ++ [s]) ∧ w.grownBy w' (some m) := by
 obtain ⟨es, clock, hb, hes, hs⟩ := h
 obtain ⟨l, hl⟩ := spotKey (a := s.1) (b := s.2) (wf_nat (by omega)) (wf_nat (by omega))
 rcases spotLaw.find w hl es.toList (MapAt.keys hes hs) with ⟨f1, _⟩ | ⟨j, e0, _, f2, f3⟩
 ·refine ⟨setBlock w m (.map (es.push ⟨spotV (s.1 : Nat) (s.2 : Nat), .int .i64 (sp.length : Nat), clock⟩) (clock + 1)), ?_, ⟨_, _, heap_setBlock_same hb _, ?_, ?_⟩, ⟨rfl, rfl, rfl, by simp [setBlock], fun i _ hi => heap_setBlock_other hb _ (fun e => hi (by rw [e]))⟩⟩
  ·have f1' := f1
   rw [show spotV (s.1 : Nat) (s.2 : Nat) = Value.agg #[.int .i64 (s.1 : Nat), .int .i64 (s.2 : Nat)] from rfl] at f1' hl ⊢
   simp [Instr.mapUpdate, run_underlying Tryz.underlying169, MapKept.run_getObj_map hb, spotLaw.check w false hl, f1', MapKept.run_setObj_map _ hb, Result.andThen, setBlock]
  ·rw [Array.toList_push, List.map_append, hes, List.zipIdx_append, List.map_append]; simp
  ·intro t ht
   rcases List.mem_append.1 ht with ht | ht
   ·exact hs t ht
   ·simp at ht; subst ht; exact ⟨h1, h2⟩
 ·exfalso
  have hj : es.toList[j]?.map (fun e => (e.key, e.val)) = some (spotV (s.1 : Nat) (s.2 : Nat), e0.val) := by rw [f2, ← f3]; rfl
  rw [← List.getElem?_map, hes, List.getElem?_map, List.getElem?_zipIdx] at hj
  cases hsj : sp[j]? with
  | none => rw [hsj] at hj; simp at hj
  | some s' =>
   rw [hsj] at hj
   simp at hj
   obtain ⟨g3, g4⟩ := spotV_inj hj.1
   have : s' = s := by cases s; cases s'; simp at g3 g4; simp; omega
   subst this
   exact hno (List.mem_of_getElem? hsj)
end Go.Proofs.YtgpfmlidchogcaaGreat

namespace Go.Proofs.YtgpfmlidchogcaaGreat

def frAt (i k : Nat) (d : Int × Int) : Fr := ⟨i, k, 2 ^ d.1.toNat - 1, d.2.toNat⟩
def frNode (i : Nat) (ds : List (Int × Int)) : List Fr := ds.zipIdx.map fun p => frAt i p.2 p.1
def frees (ns : List (List (Int × Int))) : List Fr := ns.zipIdx.flatMap fun p => frNode p.2 p.1
def spOf (f : Fr) : Nat × Nat := (f.n, f.d)

theorem frNode_next {i k : Nat} {ds : List (Int × Int)} {d : Int × Int} (h : ds[k]? = some d) : frNode i (ds.take (k + 1)) = frNode i (ds.take k) ++ [frAt i k d] := by
 have hk : k < ds.length := (List.getElem?_eq_some_iff.1 h).1
 unfold frNode
 rw [take_next h, List.zipIdx_append, List.map_append]
 simp [List.length_take, Nat.min_eq_left (Nat.le_of_lt hk)]
theorem frees_next {i : Nat} {ns : List (List (Int × Int))} {ds : List (Int × Int)} (h : ns[i]? = some ds) : frees (ns.take (i + 1)) = frees (ns.take i) ++ frNode i ds := by
 have hk : i < ns.length := (List.getElem?_eq_some_iff.1 h).1
 unfold frees
 rw [take_next h, List.zipIdx_append, List.flatMap_append]
 simp [List.length_take, Nat.min_eq_left (Nat.le_of_lt hk)]
theorem frNode_mem {i : Nat} {ds : List (Int × Int)} {f : Fr} (h : f ∈ frNode i ds) : f.n = i ∧ f.d < ds.length := by
 unfold frNode at h
 obtain ⟨p, hp, rfl⟩ := List.mem_map.1 h
 exact ⟨rfl, (List.mem_zipIdx' hp).1⟩
theorem frees_mem {ns : List (List (Int × Int))} {f : Fr} (h : f ∈ frees ns) : f.n < ns.length := by
 unfold frees at h
 obtain ⟨p, hp, h⟩ := List.mem_flatMap.1 h
 rw [(frNode_mem h).1]
 exact (List.mem_zipIdx' hp).1
theorem spot_new {i k : Nat} {ns : List (List (Int × Int))} {ds : List (Int × Int)} {d : Int × Int} : spOf (frAt i k d) ∉ (frees (ns.take i) ++ frNode i (ds.take k)).map spOf := by
 intro h
 obtain ⟨f, hf, e⟩ := List.mem_map.1 h
 simp [spOf, frAt] at e
 rcases List.mem_append.1 hf with hf | hf
 ·have := frees_mem hf
  rw [List.length_take] at this
  omega
 ·have := frNode_mem hf
  rw [List.length_take] at this
  omega
theorem frNode_len (i : Nat) (ds : List (Int × Int)) : (frNode i ds).length = ds.length := by simp [frNode]
theorem nodeOk_len {ds : List (Int × Int)} (h : nodeOk ds = true) : 1 ≤ ds.length ∧ ds.length ≤ 4 := by
 simp [nodeOk, inB] at h; omega
theorem nodeOk_dom {ds : List (Int × Int)} (h : nodeOk ds = true) {k : Nat} {g c : Int} (hd : ds[k]? = some (g, c)) : 0 ≤ g ∧ g ≤ 16 ∧ 0 ≤ c ∧ c ≤ 1024 := by
 have h2 : ds.all domOk = true := by simp [nodeOk] at h; simpa using h.2
 have := List.all_eq_true.1 h2 _ (List.mem_of_getElem? hd)
 simp [domOk, inB] at this; omega
theorem cluOk_len {ns : List (List (Int × Int))} (h : cluOk ns = true) : 1 ≤ ns.length ∧ ns.length ≤ 16 := by
 simp [cluOk, inB] at h; omega
theorem cluOk_node {ns : List (List (Int × Int))} (h : cluOk ns = true) {i : Nat} {ds : List (Int × Int)} (hd : ns[i]? = some ds) : nodeOk ds = true := by
 have h2 : ns.all nodeOk = true := by simp [cluOk] at h; simpa using h.2
 exact List.all_eq_true.1 h2 _ (List.mem_of_getElem? hd)
theorem frees_take_len {ns : List (List (Int × Int))} (h : cluOk ns = true) : ∀ i, i ≤ ns.length → (frees (ns.take i)).length ≤ 4 * i
 | 0, _ => by simp [frees]
 | i + 1, hi => by
  obtain ⟨ds, hd⟩ := get_lt (l := ns) (k := i) (by omega)
  rw [frees_next hd, List.length_append, frNode_len]
  have := frees_take_len h i (by omega)
  have := nodeOk_len (cluOk_node h hd)
  omega
theorem frees_len {ns : List (List (Int × Int))} (h : cluOk ns = true) : (frees ns).length ≤ 64 := by
 have := frees_take_len h ns.length (Nat.le_refl _)
 rw [List.take_length] at this
 have := cluOk_len h
 omega
end Go.Proofs.YtgpfmlidchogcaaGreat

namespace Go.Proofs.YtgpfmlidchogcaaGreat
open Go.RowKit
attribute [local go_sem ↓] Go.wp_at_zero Go.wp_at_succ

def frC (f : Fr) : List Value := [.int .i64 (f.n : Nat), .int .i64 (f.d : Nat), .int .u64 (f.m : Nat), .int .i64 (f.c : Nat)]
theorem info_free : (Tryz.prog.info? 144).map (fun i => (i.zero, i.size, i.bytes)) = some (some (.agg #[.int .i64 0, .int .i64 0, .int .u64 0, .int .i64 0]), 4, 32) := by kernel_rfl
theorem frC_len (l : List Fr) : (l.flatMap frC).length = l.length * 4 := by
 induction l with
 | nil => rfl
 | cons x l ih => rw [List.flatMap_cons, List.length_append, ih]; simp [frC]; omega

structure Half (w : World) (B a m k : Nat) (v : Value) (l : List Fr) : Prop where
 ha : B ≤ a
 hm : B ≤ m
 blk : w.heap[a]? = some (.cells #[.int .i64 (k : Nat), v, .map (some m)] 171 (0, 0))
 own : w.ownsRow B 144 4 v l.length (l.flatMap frC)
 map : MapAt w m (l.map spOf)

theorem Half.ne {w : World} {B a m k : Nat} {v : Value} {l : List Fr} (h : Half w B a m k v l) : a ≠ m := by
 intro e; subst e
 obtain ⟨es, clock, hb, _⟩ := h.map
 rw [h.blk] at hb; cases hb
theorem Half.own_ne {w : World} {B a m k : Nat} {v : Value} {l : List Fr} (h : Half w B a m k v l) : v.ownBlock ≠ some a ∧ v.ownBlock ≠ some m := by
 rcases h.own.2 with ⟨rfl, _⟩ | ⟨g, cap, cur, rfl, _, hg, _⟩
 ·simp [Value.ownBlock]
 ·constructor
  ·intro e
   have : g = a := by simpa [Value.ownBlock] using e
   subst this
   rw [h.blk] at hg
   injection hg with hg
   injection hg with _ ht
   exact absurd ht (by decide)
  ·intro e
   have : g = m := by simpa [Value.ownBlock] using e
   subst this
   obtain ⟨es, clock, hb, _⟩ := h.map
   rw [hb] at hg; cases hg
theorem Half.form {w : World} {B a m k : Nat} {v : Value} {l : List Fr} (h : Half w B a m k v l) : ∃ A c, v = .slice A l.length c := by
 rcases h.own.2 with ⟨rfl, h0⟩ | ⟨g, cap, cur, rfl, _, hg, _⟩
 ·exact ⟨none, 0, by rw [h0]⟩
 ·exact ⟨_, _, rfl⟩
set_option maxRecDepth 100000 in
set_option maxHeartbeats 2000000 in
theorem add_any (B a m k : Nat) (v : Value) (l : List Fr) (f : Fr) (g : Nat) (w : World) (h : Half w B a m k v l) (hB : B ≤ w.heap.size) (hl : l.length ≤ 1000) (hg : g ≤ 16) (hf : f.m = 2 ^ g - 1) (hn : f.n ≤ 1000) (hd : f.d ≤ 1000) (hc : f.c ≤ 1024) (hno : spOf f ∉ l.map spOf) :
  Calls Tryz.prog 101 #[.pointer (some ⟨a, 0, none⟩), .agg #[.int .i64 (f.n : Nat), .int .i64 (f.d : Nat)], .agg #[.int .i64 (g : Nat), .int .i64 (f.c : Nat)]] w fun e w' =>
   e = .returned (.tuple #[]) ∧ ∃ v', Half w' B a m k v' (l ++ [f]) ∧ Below B w w' := by
 obtain ⟨n, d, mm, c⟩ := f
 obtain ⟨A, cap, rfl⟩ := h.form
 simp only at hn hd hc hf
 obtain ⟨W, hW⟩ : ∃ W, W = ((w.alloc (.cells #[.int .i64 (n : Nat), .int .i64 (d : Nat)] 38)).alloc (.cells #[.int .i64 (g : Nat), .int .i64 (c : Nat)] 53)) := ⟨_, rfl⟩
 have hA : ∀ j, j < w.heap.size → W.heap[j]? = w.heap[j]? := fun j hj => by
  rw [hW]; exact (Below.heap_alloc _ _ j (by simp; omega)).trans (Below.heap_alloc _ _ j hj)
 have ham := blk_lt h.blk
 have hmm := h.map.lt
 have hmap := h.map.of_block (w' := W.drew) (hA m hmm)
 obtain ⟨w2, hput, hmap2, hgr⟩ := hmap.put (s := (n, d)) (by simp; omega) (by simp; omega) hno
 have hgr : W.grownBy w2 (some m) := ⟨hgr.os, hgr.tape, hgr.output, hgr.size, hgr.block⟩
 have hsz : W.heap.size = w.heap.size + 2 := by rw [hW]; simp
 have hS : W.heap[w.heap.size]? = some (.cells #[.int .i64 (n : Nat), .int .i64 (d : Nat)] 38 (0, 0)) := by
  rw [hW]; exact (Below.heap_alloc _ _ _ (by simp)).trans (heap_alloc_new w _)
 have hD : W.heap[w.heap.size + 1]? = some (.cells #[.int .i64 (g : Nat), .int .i64 (c : Nat)] 53 (0, 0)) := by
  rw [hW]; exact (congrArg _ (by simp)).trans (heap_alloc_new (w.alloc (.cells #[.int .i64 (n : Nat), .int .i64 (d : Nat)] 38)) _)
 have hne := h.ne
 have hon := h.own_ne
 have b1 := (hgr.block a (by omega) (by simpa using hne)).trans ((hA a ham).trans h.blk)
 have b2 := (hgr.block w.heap.size (by omega) (by simp; omega)).trans hS
 have b3 := (hgr.block (w.heap.size + 1) (by omega) (by simp; omega)).trans hD
 have sS0 : W.cell? ⟨w.heap.size, 0, none⟩ = some (.int .i64 (n : Nat)) := cell_blk (i := 0) hS rfl
 have sS1 : W.cell? ⟨w.heap.size, 1, none⟩ = some (.int .i64 (d : Nat)) := cell_blk (i := 1) hS rfl
 have c1 : W.cell? ⟨a, 1, none⟩ = some (.slice A l.length cap) := cell_blk (i := 1) ((hA a ham).trans h.blk) rfl
 have c2 : W.cell? ⟨a, 2, none⟩ = some (.map (some m)) := cell_blk (i := 2) ((hA a ham).trans h.blk) rfl
 have d1 : w2.cell? ⟨a, 1, none⟩ = some (.slice A l.length cap) := cell_blk (i := 1) b1 rfl
 have s0 : w2.cell? ⟨w.heap.size, 0, none⟩ = some (.int .i64 (n : Nat)) := cell_blk (i := 0) b2 rfl
 have s1 : w2.cell? ⟨w.heap.size, 1, none⟩ = some (.int .i64 (d : Nat)) := cell_blk (i := 1) b2 rfl
 have e0 : w2.cell? ⟨w.heap.size + 1, 0, none⟩ = some (.int .i64 (g : Nat)) := cell_blk (i := 0) b3 rfl
 have e1 : w2.cell? ⟨w.heap.size + 1, 1, none⟩ = some (.int .i64 (c : Nat)) := cell_blk (i := 1) b3 rfl
 rw [List.length_map] at hput
 simp only at hput
 have fz1 := frozen_blk (i := 1) b1
 have hown2 : w2.ownsRow B 144 4 (.slice A l.length cap) l.length (l.flatMap frC) := by
  have h0 : W.ownsRow B 144 4 (.slice A l.length cap) l.length (l.flatMap frC) := by rw [hW]; exact (h.own.alloc _).alloc _
  exact h0.kept hgr (.inr hon.2)
 have hs2 : w.heap.size + 2 ≤ w2.heap.size := by rw [← hsz]; exact hgr.size
 have hlr : w.heap.size ≠ a ∧ w.heap.size + 1 ≠ a := by omega
 have own_s : (Value.slice A l.length cap).ownBlock ≠ some w.heap.size := fun e => by have := (h.own.lt _ e).2; omega
 have own_d : (Value.slice A l.length cap).ownBlock ≠ some (w.heap.size + 1) := fun e => by have := (h.own.lt _ e).2; omega
 have hfst := first_any (g : Int)
 have hcl : clamp (g : Int) = g := by unfold clamp; rw [if_neg (by omega), if_neg (by omega)]; rfl
 rw [hcl, ← hf] at hfst
 have HF := Lib.hid hfst
 obtain ⟨i0, hi, hz0, hz1, hz2⟩ := info_parts info_free
 have HH := Lib.hid (And.intro b1 (And.intro hA (And.intro hsz (And.intro hW (And.intro hmap2 (And.intro hgr (And.intro hf hno)))))))
 clear b1 b2 b3 hsz hS hD hfst hcl hmap2 hgr hA hf hno
 go_enter Tryz.func101, Tryz.ntmps101
 go_wp2_with fail
 rw [← hW]
 clear hW
 go_still_tail 10, (by kernel_rfl)
 change wpList _ _ _ _ _ W.drew
 go_wp2
 clear hput c1 c2 sS0 sS1
 refine wp_until (fun w' : World => w'.cell? ⟨a, 1, none⟩ = some (.slice A l.length cap) ∧ w'.cell? ⟨w.heap.size, 0, none⟩ = some (.int .i64 (n : Nat)) ∧ w'.cell? ⟨w.heap.size, 1, none⟩ = some (.int .i64 (d : Nat)) ∧ w'.cell? ⟨w.heap.size + 1, 0, none⟩ = some (.int .i64 (g : Nat)) ∧ w'.cell? ⟨w.heap.size + 1, 1, none⟩ = some (.int .i64 (c : Nat))) 16 (by kernel_rfl) ?_
 have hS : (fun w' : World => w'.cell? ⟨a, 1, none⟩ = some (.slice A l.length cap) ∧ w'.cell? ⟨w.heap.size, 0, none⟩ = some (.int .i64 (n : Nat)) ∧ w'.cell? ⟨w.heap.size, 1, none⟩ = some (.int .i64 (d : Nat)) ∧ w'.cell? ⟨w.heap.size + 1, 0, none⟩ = some (.int .i64 (g : Nat)) ∧ w'.cell? ⟨w.heap.size + 1, 1, none⟩ = some (.int .i64 (c : Nat))) w2.drew := ⟨d1, s0, s1, e0, e1⟩
 have fz4 : w2.drew.frozen? ⟨a, 1, none⟩ = false := fz1
 have hown4 := hown2.drew
 have hs4 : w.heap.size + 2 ≤ w2.drew.heap.size := hs2
 have HW : Hid (w2.drew.heap = w2.heap ∧ w2.drew.os = w2.os ∧ w2.drew.tape = w2.tape ∧ w2.drew.output = w2.output) := Lib.hid ⟨rfl, rfl, rfl, rfl⟩
 clear d1 s0 s1 e0 e1 fz1 hown2 hs2
 generalize w2.drew = w4 at hS fz4 hown4 hs4 HW ⊢
 refine until_take (v := ?_) 0 16 rfl rfl (by kernel_rfl) (by kernel_rfl) (by kernel_rfl) (by kernel_rfl) (fun _ _ _ h => h) ⟨by rfl, ?_⟩ hS ?_
 rotate_left
 ·intro w' hw'; obtain ⟨x0, x1, x2, x3, x4⟩ := hw'; go_simp; (try with_reducible rfl)
 simp only [Act.put, pzA, pzB, pzC]
 refine until_take (v := ?_) 1 17 rfl rfl (by kernel_rfl) (by kernel_rfl) (by kernel_rfl) (by kernel_rfl) (fun _ _ _ h => h) ⟨by rfl, ?_⟩ hS ?_
 rotate_left
 ·intro w' hw'; obtain ⟨x0, x1, x2, x3, x4⟩ := hw'; go_simp; (try with_reducible rfl)
 simp only [Act.put, pzA, pzB, pzC]
 refine until_take (v := ?_) 2 18 rfl rfl (by kernel_rfl) (by kernel_rfl) (by kernel_rfl) (by kernel_rfl) (fun _ _ _ h => h) ⟨by rfl, ?_⟩ hS ?_
 rotate_left
 ·intro w' hw'; obtain ⟨x0, x1, x2, x3, x4⟩ := hw'; go_simp; (try with_reducible rfl)
 simp only [Act.put, pzA, pzB, pzC]
 refine until_take (v := ?_) 3 19 rfl rfl (by kernel_rfl) (by kernel_rfl) (by kernel_rfl) (by kernel_rfl) (fun _ _ _ h => h) ⟨by rfl, ?_⟩ hS ?_
 rotate_left
 ·intro w' hw'; obtain ⟨x0, x1, x2, x3, x4⟩ := hw'; go_simp; (try with_reducible rfl)
 simp only [Act.put, pzA, pzB, pzC]
 refine until_take (v := ?_) 4 20 rfl rfl (by kernel_rfl) (by kernel_rfl) (by kernel_rfl) (by kernel_rfl) (fun _ _ _ h => h) ⟨by rfl, ?_⟩ hS ?_
 rotate_left
 ·intro w' hw'; obtain ⟨x0, x1, x2, x3, x4⟩ := hw'; go_simp; (try with_reducible rfl)
 simp only [Act.put, pzA, pzB, pzC]
 refine until_take (v := ?_) 5 21 rfl rfl (by kernel_rfl) (by kernel_rfl) (by kernel_rfl) (by kernel_rfl) (fun _ _ _ h => h) ⟨by rfl, ?_⟩ hS ?_
 rotate_left
 ·intro w' hw'; obtain ⟨x0, x1, x2, x3, x4⟩ := hw'; go_simp; (try with_reducible rfl)
 simp only [Act.put, pzA, pzB, pzC]
 refine until_take (v := ?_) 6 22 rfl rfl (by kernel_rfl) (by kernel_rfl) (by kernel_rfl) (by kernel_rfl) (fun _ _ _ h => h) ⟨by rfl, ?_⟩ hS ?_
 rotate_left
 ·intro w' hw'; obtain ⟨x0, x1, x2, x3, x4⟩ := hw'; go_simp; (try with_reducible rfl)
 simp only [Act.put, pzA, pzB, pzC]
 refine until_take (v := ?_) 7 23 rfl rfl (by kernel_rfl) (by kernel_rfl) (by kernel_rfl) (by kernel_rfl) (fun _ _ _ h => h) ⟨by rfl, ?_⟩ hS ?_
 rotate_left
 ·intro w' hw'; obtain ⟨x0, x1, x2, x3, x4⟩ := hw'; go_simp; (try with_reducible rfl)
 simp only [Act.put, pzA, pzB, pzC]
 refine until_take (v := ?_) 9 25 rfl rfl (by kernel_rfl) (by kernel_rfl) (by kernel_rfl) (by kernel_rfl) (fun _ _ _ h => h) ⟨by rfl, ?_⟩ hS ?_
 rotate_left
 ·intro w' hw'; obtain ⟨x0, x1, x2, x3, x4⟩ := hw'; go_simp; (try with_reducible rfl)
 simp only [Act.put, pzA, pzB, pzC]
 refine until_take (v := ?_) 10 26 rfl rfl (by kernel_rfl) (by kernel_rfl) (by kernel_rfl) (by kernel_rfl) (fun _ _ _ h => h) ⟨by rfl, ?_⟩ hS ?_
 rotate_left
 ·intro w' hw'; obtain ⟨x0, x1, x2, x3, x4⟩ := hw'; go_simp; (try with_reducible rfl)
 simp only [Act.put, pzA, pzB, pzC]
 refine until_one 8 rfl (by kernel_rfl) rfl (fun K hK => ?_)
 go_simp
 go_at_call 136
 refine (HF.out _).mono ?_
 rintro e w' ⟨rfl, rfl⟩
 refine hK.out _ _ (fun _ => hS) ?_
 clear hK K
 refine until_take (v := ?_) 11 27 rfl rfl (by kernel_rfl) (by kernel_rfl) (by kernel_rfl) (by kernel_rfl) (fun _ _ _ h => h) ⟨by rfl, ?_⟩ hS ?_
 rotate_left
 ·intro w' hw'; obtain ⟨x0, x1, x2, x3, x4⟩ := hw'; go_simp; (try with_reducible rfl)
 simp only [Act.put, pzA, pzB, pzC]
 refine until_one 12 rfl (by kernel_rfl) rfl (fun K hK => ?_)
 go_simp
 have hst := (Below.refl w4.heap.size w4).alloc (Nat.le_refl _) (.cells #[.int .i64 (n : Nat), .int .i64 (d : Nat), .int .u64 (mm : Nat), .int .i64 (c : Nat)] 144)
 have hS4 : (fun w' : World => w'.cell? ⟨a, 1, none⟩ = some (.slice A l.length cap) ∧ w'.cell? ⟨w.heap.size, 0, none⟩ = some (.int .i64 (n : Nat)) ∧ w'.cell? ⟨w.heap.size, 1, none⟩ = some (.int .i64 (d : Nat)) ∧ w'.cell? ⟨w.heap.size + 1, 0, none⟩ = some (.int .i64 (g : Nat)) ∧ w'.cell? ⟨w.heap.size + 1, 1, none⟩ = some (.int .i64 (c : Nat))) (w4.alloc (.cells #[.int .i64 (n : Nat), .int .i64 (d : Nat), .int .u64 (mm : Nat), .int .i64 (c : Nat)] 144)) :=
  ⟨(hst.cell (p := ⟨a, 1, none⟩) (show a < _ by omega)).trans hS.1, (hst.cell (p := ⟨w.heap.size, 0, none⟩) (show w.heap.size < _ by omega)).trans hS.2.1, (hst.cell (p := ⟨w.heap.size, 1, none⟩) (show w.heap.size < _ by omega)).trans hS.2.2.1, (hst.cell (p := ⟨w.heap.size + 1, 0, none⟩) (show w.heap.size + 1 < _ by omega)).trans hS.2.2.2.1, (hst.cell (p := ⟨w.heap.size + 1, 1, none⟩) (show w.heap.size + 1 < _ by omega)).trans hS.2.2.2.2⟩
 refine hK.out _ _ (fun _ => hS4) ?_
 clear hK K
 refine until_one 13 rfl (by kernel_rfl) rfl (fun K hK => ?_)
 simp only [Go.wp_at_zero, Go.wp_at_succ]
 refine wp_append_lies _ _ _ 111 rfl B 144 i0 _ 4 32 Tryz.underlying111 hi hz0 hz1 hz2 rfl (by omega) (.slice A l.length cap) l.length (l.flatMap frC) rfl (hown4.alloc _) ⟨w4.heap.size, 0, none⟩ 1 1 [.int .i64 (n : Nat), .int .i64 (d : Nat), .int .u64 (mm : Nat), .int .i64 (c : Nat)] rfl rfl (World.news_of_block (cs := #[.int .i64 (n : Nat), .int .i64 (d : Nat), .int .u64 (mm : Nat), .int .i64 (c : Nat)]) (t := 144) (fr := (0, 0)) (heap_alloc_new w4 _)) (by simp [Value.oneCell']) (by omega) (by unfold maxLen; omega) (by omega) (by simp; omega) (w4.heap.size + 1) (by simp) ?_
 intro gg cap' w3 hown3 hgrow hat hlt
 have hS3 : (fun w' : World => w'.cell? ⟨a, 1, none⟩ = some (.slice A l.length cap) ∧ w'.cell? ⟨w.heap.size, 0, none⟩ = some (.int .i64 (n : Nat)) ∧ w'.cell? ⟨w.heap.size, 1, none⟩ = some (.int .i64 (d : Nat)) ∧ w'.cell? ⟨w.heap.size + 1, 0, none⟩ = some (.int .i64 (g : Nat)) ∧ w'.cell? ⟨w.heap.size + 1, 1, none⟩ = some (.int .i64 (c : Nat))) w3 :=
  ⟨(hgrow.cell_far _ (by simp; omega) (Ne.symm hon.1)).trans hS4.1, (hgrow.cell_far _ (by simp; omega) (Ne.symm own_s)).trans hS4.2.1, (hgrow.cell_far _ (by simp; omega) (Ne.symm own_s)).trans hS4.2.2.1, (hgrow.cell_far _ (by simp; omega) (Ne.symm own_d)).trans hS4.2.2.2.1, (hgrow.cell_far _ (by simp; omega) (Ne.symm own_d)).trans hS4.2.2.2.2⟩
 have g4 := hS3.1
 have g5 : w3.frozen? ⟨a, 1, none⟩ = false := (hgrow.frozen_far ⟨a, 1, none⟩ (by simp; omega) (Ne.symm hon.1)).trans ((hst.frozen (p := ⟨a, 1, none⟩) (show a < _ by omega)).trans fz4)
 refine hK.out _ _ (fun _ => hS3) ?_
 clear hK K
 simp only [Act.put, pzA, pzB, pzC]
 refine until_one 14 rfl (by kernel_rfl) rfl (fun K hK => ?_)
 go_simp
 refine hK.out _ _ (fun _ => hS3) ?_
 clear hK K
 refine until_one 15 rfl (by kernel_rfl) rfl (fun K hK => ?_)
 go_simp
 refine hK.out _ _ (fun _ => hS3) ?_
 clear hK K
 refine until_one 16 rfl (by kernel_rfl) rfl (fun K hK => ?_)
 go_simp
 refine hK.out _ _ (fun h => absurd h (by decide)) ?_
 clear hK K
 refine until_done (by kernel_rfl) ?_
 go_end0
 obtain ⟨b1, hA, hsz, hW, hmap2, hgr, hf, hno⟩ := HH.out
 obtain ⟨e1, e2, e3, e4⟩ := HW.out
 have hgo : ∀ j, j < w4.heap.size → some j ≠ (Value.slice A l.length cap).ownBlock → w3.heap[j]? = w2.heap[j]? := fun j hj hne => by
  rw [← e1]
  exact (hgrow.block j (by simp; omega) hne).trans (Below.heap_alloc w4 _ j hj)
 have hga : gg ≠ a := by
  rcases hat with hat | hat
  ·rintro rfl; exact hon.1 hat
  ·omega
 refine ⟨rfl, .slice (some ⟨gg, 0, none⟩) (l.length + 1) cap', ⟨h.ha, h.hm, ?_, ?_, ?_⟩, ?_⟩
 ·have hb : w3.heap[a]? = some (.cells #[.int .i64 (k : Nat), .slice A l.length cap, .map (some m)] 171 (0, 0)) := (hgo a (by omega) (Ne.symm hon.1)).trans b1
  simp [World.setCell, Array.getElem?_modify, hb]
 ·have hg : w3.grownBy (w3.setCell ⟨a, 1, none⟩ (.slice (some ⟨gg, 0, none⟩) (l.length + 1) cap')) (some a) :=
   ⟨rfl, rfl, rfl, by simp [World.setCell], fun k _ hk => Below.heap_setCell w3 ⟨a, 1, none⟩ _ k (fun e => hk (by rw [e]))⟩
  have := hown3.kept hg (.inr (by simp [Value.ownBlock]; exact hga))
  rw [List.length_append, List.flatMap_append]
  simpa [frC] using this
 ·refine MapAt.of_block (w := w2) (by simpa [spOf] using hmap2) ?_
  exact (Below.heap_setCell w3 ⟨a, 1, none⟩ _ m (Ne.symm hne)).trans (hgo m (by omega) (Ne.symm hon.2))
 ·have hB1 : Below B w W := by rw [hW]; exact ((Below.refl B w).alloc hB _).alloc (by simp; omega) _
  have hB2 : Below B w w2 := hB1.grown hgr (by omega) (fun k e => by cases e; exact h.hm)
  have hB4 : Below B w w4 := ⟨e2.trans hB2.os, e3.trans hB2.tape, e4.trans hB2.output, by rw [e1]; exact hB2.size, fun k hk => by rw [e1]; exact hB2.block k hk⟩
  exact ((hB4.alloc (by omega) _).grown hgrow (by simp; omega) (fun k e => (hown4.lt k e).1)).setCell h.ha _
end Go.Proofs.YtgpfmlidchogcaaGreat

namespace Go.Proofs.YtgpfmlidchogcaaGreat
open Go.RowKit

theorem new_no (A : Option Addr) (c B : Nat) (ns : List (List (Int × Int))) (w : World) (h : Nodes w B A ns) (hB : B ≤ w.heap.size) (hr : cluOk ns = false) :
  Calls Tryz.prog 59 #[.agg #[.slice A ns.length c]] w fun e w' => e = .returned (.tuple #[.pointer none, .int .i64 1]) ∧ Below w.heap.size w w' := by
 have hc := Lib.hid (fun W (hW : Below w.heap.size w W) => clu_any A c B ns W (Nodes.keep h (hW.mono hB) (Nat.le_refl _)) (by have := hW.size; omega) false hr)
 clear h hr
 go_enter Tryz.func59, Tryz.ntmps59
 go_wp2_with (go_at_call 100; refine (hc.out _ ((Below.refl _ _).alloc (Nat.le_refl _) _)).mono ?_; rintro e w1 ⟨rfl, hb1⟩)
 go_ret2
 exact ⟨rfl, below_step ((Below.refl _ _).alloc (Nat.le_refl _) _) hb1⟩
theorem Half.alloc {w : World} {B a m k : Nat} {v : Value} {l : List Fr} (h : Half w B a m k v l) (o : Obj) : Half (w.alloc o) B a m k v l :=
 ⟨h.ha, h.hm, (Below.heap_alloc w o a (blk_lt h.blk)).trans h.blk, h.own.alloc o, h.map.of_block (Below.heap_alloc w o m h.map.lt)⟩
theorem add_at (B a m n : Nat) (v : Value) (i j G P : Nat) (ns : List (List (Int × Int))) (ds : List (Int × Int)) (hl : (frees (ns.take i) ++ frNode i (ds.take j)).length ≤ 1000) (hi : i ≤ 1000) (hj : j ≤ 1000) (hG : G ≤ 16) (hP : P ≤ 1024) (W : World) (h : Half W B a m n v (frees (ns.take i) ++ frNode i (ds.take j))) (hB : B ≤ W.heap.size) :
  Calls Tryz.prog 101 #[.pointer (some ⟨a, 0, none⟩), .agg #[.int .i64 (i : Nat), .int .i64 (j : Nat)], .agg #[.int .i64 (G : Nat), .int .i64 (P : Nat)]] W fun e w' =>
   e = .returned (.tuple #[]) ∧ ∃ v', Half w' B a m n v' (frees (ns.take i) ++ frNode i (ds.take j) ++ [frAt i j (G, P)]) ∧ Below B W w' :=
 add_any B a m n v _ (frAt i j (G, P)) G W h hB hl hG rfl hi hj hP spot_new
set_option maxRecDepth 100000 in
set_option maxHeartbeats 4000000 in
theorem new_loop (b off c B n : Nat) (ns : List (List (Int × Int))) (hn : ns.length = n) (w : World) (hb : b < B) (hc : ∀ i x, ns[i]? = some x → NodeAt w B b (off + i * 1) x) (hB : B ≤ w.heap.size) (hok : cluOk ns = true) :
  Calls Tryz.prog 59 #[.agg #[.slice (some ⟨b, off, none⟩) n c]] w fun e w' => ∃ a m v, e = .returned (.tuple #[.pointer (some ⟨a, 0, none⟩), .int .i64 0]) ∧ Half w' w.heap.size a m n v (frees ns) ∧ Below w.heap.size w w' := by
 have hcl := Lib.hid (fun W (hW : Below w.heap.size w W) => clu_any (some ⟨b, off, none⟩) c B ns W (.inr ⟨b, off, rfl, hb, fun i x hx => (hc i x hx).keep hb (hW.mono hB) (Nat.le_refl _)⟩) (by have := hW.size; omega) true hok)
 rw [hn] at hcl
 obtain ⟨hn1, hn2⟩ := cluOk_len hok
 rw [hn] at hn1 hn2
 have Q := Lib.hid (And.intro hn (And.intro hc hok))
 clear hn hc hok
 have hmm := @run_makeMap Tryz.prog
 have hb0 : b < w.heap.size := by omega
 go_enter Tryz.func59, Tryz.ntmps59
 have c0 : (w.alloc (.cells #[.slice (some ⟨b, off, none⟩) n c] 24)).cell? ⟨w.heap.size, 0, none⟩ = some (.slice (some ⟨b, off, none⟩) n c) := by go_simp
 go_wp2_with (go_at_call 100; refine (hcl.out _ ((Below.refl _ _).alloc (Nat.le_refl _) _)).mono ?_; rintro e w1 ⟨rfl, hb1⟩; have c1 := (hb1.cell (p := ⟨w.heap.size, 0, none⟩) (by simp)).trans c0; have hBw := below_step ((Below.refl _ _).alloc (Nat.le_refl _) _) hb1; have hsz := hb1.size; simp at hsz; have hb3 : Below w1.heap.size w1 ((w1.alloc (.map #[] 0)).alloc (.cells #[.int .i64 (n : Nat), .slice none 0 0, .map (some w1.heap.size)] 171)) := ((Below.refl _ _).alloc (Nat.le_refl _) _).alloc (by simp) _; have c2 := (hb3.cell (p := ⟨w.heap.size, 0, none⟩) (show w.heap.size < _ by omega)).trans c1)
 have hH : Half ((w1.alloc (.map #[] 0)).alloc (.cells #[.int .i64 (n : Nat), .slice none 0 0, .map (some w1.heap.size)] 171)) w.heap.size (w1.heap.size + 1) w1.heap.size n (.slice none 0 0) (frees (ns.take 0)) := by
  refine ⟨by omega, by omega, ?_, World.ownsRow_nil _ _ _ _, ?_⟩
  ·have := heap_alloc_new (w1.alloc (.map #[] 0)) (.cells #[.int .i64 (n : Nat), .slice none 0 0, .map (some w1.heap.size)] 171)
   simpa using this
  ·exact (MapAt.new w1).of_block (Below.heap_alloc _ _ _ (by simp))
 obtain ⟨a, ha⟩ : ∃ a, a = w1.heap.size + 1 := ⟨_, rfl⟩
 obtain ⟨m, hm⟩ : ∃ m, m = w1.heap.size := ⟨_, rfl⟩
 obtain ⟨w2, hw2⟩ : ∃ w2, w2 = (w1.alloc (.map #[] 0)).alloc (.cells #[.int .i64 (n : Nat), .slice none 0 0, .map (some w1.heap.size)] 171) := ⟨_, rfl⟩
 have hB2 := below_step hBw hb3
 rw [← hw2] at hH hB2 ⊢
 rw [← ha, ← hm] at hH ⊢
 clear hb3 c2 c1 hmm hb1 hw2 ha hm hBw hsz c0 hcl
 go_loopw [21] (fun i wr => ∃ (k : Nat) (v : Value), i = .int .i64 k ∧ k ≤ n ∧ Below w.heap.size w wr ∧ Half wr w.heap.size a m n v (frees (ns.take k))) (fun i _ => n - (intOf i).toNat)
 case atStart => exact ⟨0, _, rfl, by omega, hB2, hH⟩
 case round =>
  obtain ⟨i, v, rfl, hin, hBl, hHf⟩ := hrel
  have hBs := hBl.size
  by_cases hlt : i < n
  ·obtain ⟨ds, hx⟩ := get_lt (l := ns) (by rw [Q.out.1]; exact hlt)
   obtain ⟨A', c', c0, hl1, hl2, hds⟩ := Q.out.2.1 i _ hx
   have c0 := (hBl.cell (p := ⟨b, off + i * 1, none⟩) hb0).trans c0
   rw [Nat.mul_one] at c0
   have hok := cluOk_node Q.out.2.2 hx
   have hdl := nodeOk_len hok
   obtain ⟨y, hy⟩ := get_lt (l := ds) (k := 0) (by omega)
   obtain ⟨b', off', rfl, hb', hc'⟩ := hds.at_ hy
   obtain ⟨q, hq⟩ : ∃ q, ds.length = q := ⟨_, rfl⟩
   rw [hq] at c0 hdl
   have t0 : decide (i < n) = true := by simpa using hlt
   have hfl := frees_take_len Q.out.2.2 i (by rw [Q.out.1]; exact hin)
   have X := Lib.hid (And.intro hx (And.intro hok (And.intro hq hc')))
   have HF := Lib.hid hHf
   clear hx hl1 hl2 hds hy hq hok hc' hHf
   go_wp2
   go_loopw [29] (fun j wr' => ∃ (k : Nat) (v : Value), j = .int .i64 k ∧ k ≤ q ∧ Below w.heap.size w wr' ∧ Half wr' w.heap.size a m n v (frees (ns.take i) ++ frNode i (ds.take k))) (fun j _ => q - (intOf j).toNat)
   case atStart => exact ⟨0, v, rfl, by omega, hBl.alloc hBs _, by simpa [frNode] using HF.out.alloc _⟩
   case round =>
    obtain ⟨j, v, rfl, hj, hBl', hHf⟩ := hrel
    have hBs' := hBl'.size
    by_cases hjl : j < q
    ·obtain ⟨hx, hok, hq, hc'⟩ := X.out
     obtain ⟨⟨g, p⟩, hy⟩ := get_lt (l := ds) (k := j) (by omega)
     have hd := (hc' j _ hy).keep (B := B) hb' (hBl'.mono hB)
     obtain ⟨g1, g2, p1, p2⟩ := nodeOk_dom hok hy
     obtain ⟨G, rfl⟩ : ∃ G : Nat, g = G := ⟨g.toNat, by omega⟩
     obtain ⟨P, rfl⟩ : ∃ P : Nat, p = P := ⟨p.toNat, by omega⟩
     obtain ⟨d0, d1⟩ := hd
     have hll : (frees (ns.take i) ++ frNode i (ds.take j)).length ≤ 1000 := by
      rw [List.length_append, frNode_len, List.length_take]; omega
     have NA := Lib.hid (add_at w.heap.size a m n v i j G P ns ds hll (by omega) (by omega) (by omega) (by omega) _ (hHf.alloc (.cells #[.int .i64 (G : Nat), .int .i64 (P : Nat)] 53)) (by simp; omega))
     have N := Lib.hid (frNode_next (i := i) hy)
     have t1 : decide (j < q) = true := by simpa using hjl
     clear hx hok hq hc' hy g1 g2 p1 p2 hll hHf
     go_wp2_with (go_at_call 101; refine NA.out.mono ?_; rintro e w3 ⟨rfl, v', hHf', hB3⟩)
     go_roundw
     case rel => exact ⟨j + 1, v', by go_num, by omega, (hBl'.alloc hBs' _).trans hB3, by rw [N.out, ← List.append_assoc]; exact hHf'⟩
     case measure => simp [intOf]; omega
    ·obtain rfl : j = q := by omega
     obtain ⟨hx, hok, hq, hc'⟩ := X.out
     rw [← hq, List.take_length, ← frees_next hx] at hHf
     have HH := Lib.hid hHf
     clear hx hok hq hc' hjl hHf
     go_wp2
     go_roundw
     case rel => exact ⟨i + 1, v, by go_num, by omega, hBl', HH.out⟩
     case measure => simp [intOf]; omega
  ·obtain rfl : i = n := by omega
   rw [show ns.take i = ns from by rw [← Q.out.1]; exact List.take_length] at hHf
   have HH := Lib.hid hHf
   clear hlt hHf
   go_wp2
   go_ret2
   exact ⟨a, m, v, rfl, HH.out, hBl⟩
end Go.Proofs.YtgpfmlidchogcaaGreat

namespace Go.Proofs.YtgpfmlidchogcaaGreat
open Go.RowKit

theorem flat_at : ∀ {l : List Fr} {i r : Nat} {f : Fr}, l[i]? = some f → r < 4 → (l.flatMap frC)[i * 4 + r]? = (frC f)[r]?
 | [], _, _, _, h, _ => by simp at h
 | x :: l, 0, r, f, h, hr => by
  simp at h; subst h
  rw [List.flatMap_cons, List.getElem?_append_left (by simp [frC]; omega)]; simp
 | x :: l, i + 1, r, f, h, hr => by
  rw [List.flatMap_cons, List.getElem?_append_right (by simp [frC]; omega), show (i + 1) * 4 + r - (frC x).length = i * 4 + r by simp [frC]; omega]
  exact flat_at (by simpa using h) hr
def TopoAt (w : World) (a k : Nat) (l : List Fr) : Prop :=
 ∃ m A c, w.heap[a]? = some (.cells #[.int .i64 (k : Nat), .slice A l.length c, .map (some m)] 171 (0, 0)) ∧ Frees w w.heap.size A l ∧ MapAt w m (l.map spOf)
theorem TopoAt.lt {w : World} {a k : Nat} {l : List Fr} (h : TopoAt w a k l) : a < w.heap.size := by
 obtain ⟨m, A, c, h1, h2, h3⟩ := h
 exact blk_lt h1
theorem TopoAt.keep {w w' : World} {a k : Nat} {l : List Fr} (h : TopoAt w a k l) (hb : Below w.heap.size w w') : TopoAt w' a k l := by
 obtain ⟨m, A, c, h1, h2, h3⟩ := h
 exact ⟨m, A, c, (hb.block a (blk_lt h1)).trans h1, Frees.keep h2 hb hb.size, h3.of_block (hb.block m h3.lt)⟩
theorem own_frees {w : World} {B g c : Nat} {l : List Fr} (h : w.ownsRow B 144 4 (.slice (some ⟨g, 0, none⟩) l.length c) l.length (l.flatMap frC)) : Frees w w.heap.size (some ⟨g, 0, none⟩) l := by
 refine .inr ⟨g, 0, rfl, (h.lt g rfl).2, fun i f hf => ?_⟩
 have hi : i < l.length := (List.getElem?_eq_some_iff.1 hf).1
 have hc : ∀ r, r < 4 → w.cell? ⟨g, 0 + i * 4 + r, none⟩ = (frC f)[r]? := fun r hr => by
  rw [← flat_at hf hr, Nat.zero_add]
  exact h.cellAt _ (by omega)
 exact ⟨hc 0 (by omega), hc 1 (by omega), hc 2 (by omega), hc 3 (by omega)⟩
theorem nodes_any (a k : Nat) (l : List Fr) (w : World) (h : TopoAt w a k l) :
  Calls Tryz.prog 140 #[.pointer (some ⟨a, 0, none⟩)] w fun e w' => e = .returned (.int .i64 (k : Nat)) ∧ w = w' := by
 obtain ⟨m, A, c, h1, h2, h3⟩ := h
 have c0 : w.cell? ⟨a, 0, none⟩ = some (.int .i64 (k : Nat)) := cell_blk (i := 0) h1 rfl
 clear h1 h2 h3
 go_enter Tryz.func140, Tryz.ntmps140
 go_wp2
 go_ret
 exact ⟨rfl, rfl⟩
set_option maxHeartbeats 1000000 in
theorem index_core (a m : Nat) (x y : Int) (r : Nat) (b : Bool) (w : World) (c2 : w.cell? ⟨a, 2, none⟩ = some (.map (some m)))
  (hl : ∀ n, (Instr.lookup 169 (.map (some m)) (.agg #[.int .i64 x, .int .i64 y]) true).run Tryz.prog ((w.alloc (.cells #[.int .i64 x, .int .i64 y] 38)).drewN n) = .ok (.tuple #[.int .i64 (r : Nat), .bool b]) ((w.alloc (.cells #[.int .i64 x, .int .i64 y] 38)).drewN n)) (ha : a < w.heap.size) :
  Calls Tryz.prog 152 #[.pointer (some ⟨a, 0, none⟩), .agg #[.int .i64 x, .int .i64 y]] w fun e w' => e = .returned (.tuple #[.int .i64 (r : Nat), .bool b]) ∧ Below w.heap.size w w' := by
 have c3 : (w.alloc (.cells #[.int .i64 x, .int .i64 y] 38)).cell? ⟨a, 2, none⟩ = some (.map (some m)) := (((Below.refl w.heap.size w).alloc (Nat.le_refl _) _).cell (p := ⟨a, 2, none⟩) ha).trans c2
 go_enter Tryz.func152, Tryz.ntmps152
 go_wp2_with fail
 go_quiet (fail)
 go_wp2
 go_ret2
 exact ⟨rfl, below_drewN ((Below.refl _ _).alloc (Nat.le_refl _) _) _⟩
theorem index_hit (a k i : Nat) (f : Fr) (l : List Fr) (w : World) (h : TopoAt w a k l) (hi : l[i]? = some f) (hn : (l.map spOf).Nodup) :
  Calls Tryz.prog 152 #[.pointer (some ⟨a, 0, none⟩), .agg #[.int .i64 (f.n : Nat), .int .i64 (f.d : Nat)]] w fun e w' => e = .returned (.tuple #[.int .i64 (i : Nat), .bool true]) ∧ Below w.heap.size w w' := by
 obtain ⟨m, A, c, h1, h2, h3⟩ := h
 refine index_core a m _ _ i true w (cell_blk (i := 2) h1 rfl) (fun n => ?_) (blk_lt h1)
 have h4 : MapAt ((w.alloc (.cells #[.int .i64 (f.n : Nat), .int .i64 (f.d : Nat)] 38)).drewN n) m (l.map spOf) := h3.of_block (Below.heap_alloc w _ m h3.lt)
 exact h4.look_hit (s := spOf f) (by rw [List.getElem?_map, hi]; rfl) hn
theorem index_miss (a k : Nat) (x y : Int) (l : List Fr) (w : World) (h : TopoAt w a k l) (hx : (Lit.int .i64 x).wf = true) (hy : (Lit.int .i64 y).wf = true) (hno : ∀ f ∈ l, ¬ ((f.n : Int) = x ∧ (f.d : Int) = y)) :
  Calls Tryz.prog 152 #[.pointer (some ⟨a, 0, none⟩), .agg #[.int .i64 x, .int .i64 y]] w fun e w' => e = .returned (.tuple #[.int .i64 (0 : Nat), .bool false]) ∧ Below w.heap.size w w' := by
 obtain ⟨m, A, c, h1, h2, h3⟩ := h
 refine index_core a m _ _ 0 false w (cell_blk (i := 2) h1 rfl) (fun n => ?_) (blk_lt h1)
 have h4 : MapAt ((w.alloc (.cells #[.int .i64 x, .int .i64 y] 38)).drewN n) m (l.map spOf) := h3.of_block (Below.heap_alloc w _ m h3.lt)
 refine h4.look_miss hx hy fun s hs => ?_
 obtain ⟨f, hf, rfl⟩ := List.mem_map.1 hs
 exact hno f hf
theorem box4 (w : World) (o : Obj) (v0 v1 v2 v3 : Value) (t : TypeId) (w2 : World) (hb : Below ((w.alloc o).alloc (.cells #[v0, v1, v2, v3] t)).heap.size ((w.alloc o).alloc (.cells #[v0, v1, v2, v3] t)) w2) :
  w2.cell? ⟨w.heap.size + 1, 0, none⟩ = some v0 ∧ w2.cell? ⟨w.heap.size + 1, 1, none⟩ = some v1 ∧ w2.cell? ⟨w.heap.size + 1, 2, none⟩ = some v2 ∧ w2.cell? ⟨w.heap.size + 1, 3, none⟩ = some v3 ∧
  w2.frozen? ⟨w.heap.size + 1, 0, none⟩ = false ∧ w2.frozen? ⟨w.heap.size + 1, 1, none⟩ = false ∧ w2.frozen? ⟨w.heap.size + 1, 2, none⟩ = false ∧ w2.frozen? ⟨w.heap.size + 1, 3, none⟩ = false := by
 have h : w2.heap[w.heap.size + 1]? = some (.cells #[v0, v1, v2, v3] t (0, 0)) := by
  refine (hb.block _ (by simp)).trans ?_
  have := heap_alloc_new (w.alloc o) (.cells #[v0, v1, v2, v3] t)
  simpa using this
 exact ⟨cell_blk (i := 0) h rfl, cell_blk (i := 1) h rfl, cell_blk (i := 2) h rfl, cell_blk (i := 3) h rfl, frozen_blk h, frozen_blk h, frozen_blk h, frozen_blk h⟩
set_option maxRecDepth 100000 in
set_option maxHeartbeats 1000000 in
theorem at_hit (a k i : Nat) (f : Fr) (l : List Fr) (w : World) (h : TopoAt w a k l) (hi : l[i]? = some f) (hn : (l.map spOf).Nodup) :
  Calls Tryz.prog 130 #[.pointer (some ⟨a, 0, none⟩), .agg #[.int .i64 (f.n : Nat), .int .i64 (f.d : Nat)]] w fun e w' => e = .returned (.tuple #[.agg #[.int .i64 (f.n : Nat), .int .i64 (f.d : Nat), .int .u64 (f.m : Nat), .int .i64 (f.c : Nat)], .int .i64 0]) ∧ Below w.heap.size w w' := by
 have hI := Lib.hid (fun W (hW : Below w.heap.size w W) => index_hit a k i f l W (h.keep hW) hi hn)
 have hil : i < l.length := (List.getElem?_eq_some_iff.1 hi).1
 have hT := Lib.hid h
 obtain ⟨m, A, c, h1, h2, h3⟩ := h
 obtain ⟨b, off, rfl, hb, hc⟩ := h2.at_ hi
 obtain ⟨n, hln⟩ : ∃ n, l.length = n := ⟨_, rfl⟩
 rw [hln] at h1 hil
 have hF := Lib.hid (hc i f hi)
 have ha := blk_lt h1
 have H1 := Lib.hid h1
 clear h1 h2 h3 hc hi hn hln
 have hB0 := ((Below.refl w.heap.size w).alloc (Nat.le_refl _) (.cells #[.int .i64 (f.n : Nat), .int .i64 (f.d : Nat)] 38)).alloc (by simp) (.cells #[.int .i64 0, .int .i64 0, .int .u64 0, .int .i64 0] 144)
 go_enter Tryz.func130, Tryz.ntmps130
 go_wp2_with (go_at_call 152; refine (hI.out _ hB0).mono ?_; rintro e w2 ⟨rfl, hb2⟩; have hBw := below_step hB0 hb2; have c1 : w2.cell? ⟨a, 1, none⟩ = some (.slice (some ⟨b, off, none⟩) n c) := (hBw.cell (p := ⟨a, 1, none⟩) ha).trans (cell_blk (i := 1) H1.out rfl); obtain ⟨f0, f1, f2, f3⟩ := hF.out.keep hb hBw; obtain ⟨z0, z1, z2, z3, y0, y1, y2, y3⟩ := box4 w _ _ _ _ _ _ w2 hb2)
 refine bodyPost_ret (v := .tuple #[.agg #[.int .i64 (f.n : Nat), .int .i64 (f.d : Nat), .int .u64 (f.m : Nat), .int .i64 (f.c : Nat)], .int .i64 0]) (by simp [results, Tryz.results130, go_sem, z0, z1, z2, z3]) rfl ?_
 exact ⟨rfl, (((hBw.setCell (by simp) _).setCell (by simp) _).setCell (by simp) _).setCell (by simp) _⟩
/-! ### All -/
theorem run_copy_whole {P : Program} (w : World) (dT sT ty elem : TypeId) (i : TypeInfo) (g n dCap : Nat) (a : Addr) (sCap size : Nat) (cur : Array Value) (t : TypeId) (cs : List Value)
  (hu : P.underlying dT = some (.slice elem)) (hi : P.info? elem = some i) (hs : i.size = size) (hg : w.heap[g]? = some (.cells cur t (0, 0))) (hc : cs.length = n * size) (hz : cur.size = n * size)
  (hsrc : ∀ j v, cs[j]? = some v → w.cell? (a.add j) = some v) (h1 : ∀ v ∈ cs, v.oneCell' = true) :
  (Builtin.copy_ #[dT, sT] ty #[.slice (some ⟨g, 0, none⟩) n dCap, .slice (some a) n sCap]).run P w = .ok (goInt n) (w.setRow g cs.toArray) := by
 have hl := run_firstCells_some (P := P) w size n a n sCap cs hc hsrc
 have hst := run_storeCells_at P g 0 t cs 0 cur w hg (by omega) h1
 have e : cur.toList.take (0 + 0) ++ cs ++ cur.toList.drop (0 + 0 + cs.length) = cs := by
  rw [List.drop_of_length_le (by simp; omega)]; simp
 rw [e] at hst
 simp [Builtin.copy_, run_underlying hu, Builtin.lenOf, sizeOf, typeInfo, hi, hs, hl, hst]
theorem wpList_copy_whole {P : Program} {w : World} {ops : Array Oper} {rest : List Oper} {o : Oper} {a : Act} {Q : Exit → Act → World → Prop} (hgd : o.guard = none) (d s : Operand) (dT sT : TypeId)
  (ho : o.op = .call { callee := .builtin .copy, args := #[d, s], argTypes := #[dT, sT] }) (elem : TypeId) (i : TypeInfo) (size : Nat) (hu : P.underlying dT = some (.slice elem)) (hi : P.info? elem = some i) (hs : i.size = size)
  (g n dCap sCap : Nat) (ad : Addr) (hd : a.eval d = .slice (some ⟨g, 0, none⟩) n dCap) (hsv : a.eval s = .slice (some ad) n sCap)
  (cur : Array Value) (t : TypeId) (cs : List Value) (hg : w.heap[g]? = some (.cells cur t (0, 0))) (hc : cs.length = n * size) (hz : cur.size = n * size)
  (hsrc : ∀ j v, cs[j]? = some v → w.cell? (ad.add j) = some v) (h1 : ∀ v ∈ cs, v.oneCell' = true)
  (h : wpList P ops Q rest (a.put o.dst (goInt n)) (w.setRow g cs.toArray)) : wpList P ops Q (o :: rest) a w := by
 refine wpList_plain hgd fun K hK => ?_
 have hrun := run_copy_whole (P := P) w dT sT o.type elem i g n dCap ad sCap size cur t cs hu hi hs hg hc hz hsrc h1
 unfold Oper.wp
 simp [execOp, ho, resolve, invoke, builtin, hd, hsv, hrun, Result.andThen]
 exact hK _ _ h
end Go.Proofs.YtgpfmlidchogcaaGreat

namespace Go.Proofs.YtgpfmlidchogcaaGreat
open Go.RowKit

theorem frees_cells {w : World} {b off : Nat} {l : List Fr} (h : ∀ (i : Nat) (x : Fr), l[i]? = some x → FrAt w b (off + i * 4) x) : ∀ j v, (l.flatMap frC)[j]? = some v → w.cell? ((⟨b, off, none⟩ : Addr).add j) = some v := by
 intro j v hj
 rw [Addr.add_lit]
 have hjl : j < (l.flatMap frC).length := (List.getElem?_eq_some_iff.1 hj).1
 rw [frC_len] at hjl
 obtain ⟨f, hf⟩ := get_lt (l := l) (k := j / 4) (by omega)
 have e := flat_at hf (show j % 4 < 4 by omega)
 rw [show j / 4 * 4 + j % 4 = j by omega, hj] at e
 obtain ⟨h0, h1, h2, h3⟩ := h _ _ hf
 have hr : j % 4 = 0 ∨ j % 4 = 1 ∨ j % 4 = 2 ∨ j % 4 = 3 := by omega
 rcases hr with hr | hr | hr | hr
 ·rw [hr] at e; simp [frC] at e; rw [e, ← h0, show off + j = off + j / 4 * 4 by omega]
 ·rw [hr] at e; simp [frC] at e; rw [e, ← h1, show off + j = off + j / 4 * 4 + 1 by omega]
 ·rw [hr] at e; simp [frC] at e; rw [e, ← h2, show off + j = off + j / 4 * 4 + 2 by omega]
 ·rw [hr] at e; simp [frC] at e; rw [e, ← h3, show off + j = off + j / 4 * 4 + 3 by omega]
theorem frC_one : ∀ (l : List Fr), ∀ v ∈ l.flatMap frC, v.oneCell' = true := by
 intro l v hv
 obtain ⟨f, _, hv⟩ := List.mem_flatMap.1 hv
 simp [frC] at hv
 rcases hv with rfl | rfl | rfl | rfl <;> rfl
theorem blk_frees {w : World} {g : Nat} {t : TypeId} {l : List Fr} (h : w.heap[g]? = some (.cells (l.flatMap frC).toArray t (0, 0))) : Frees w w.heap.size (some ⟨g, 0, none⟩) l := by
 refine .inr ⟨g, 0, rfl, blk_lt h, fun i f hf => ?_⟩
 have hc : ∀ r u, r < 4 → (frC f)[r]? = some u → w.cell? ⟨g, 0 + i * 4 + r, none⟩ = some u := fun r u hr hu => by
  refine cell_blk h ?_
  rw [Nat.zero_add, List.getElem?_toArray, flat_at hf hr, hu]
 exact ⟨hc 0 _ (by omega) rfl, hc 1 _ (by omega) rfl, hc 2 _ (by omega) rfl, hc 3 _ (by omega) rfl⟩
set_option maxRecDepth 100000 in
set_option maxHeartbeats 1000000 in
theorem all_any (a k : Nat) (l : List Fr) (w : World) (h : TopoAt w a k l) (h0 : 0 < l.length) (hl : l.length ≤ 1000) :
  Calls Tryz.prog 60 #[.pointer (some ⟨a, 0, none⟩)] w fun e w' => ∃ g, e = .returned (.slice (some ⟨g, 0, none⟩) l.length l.length) ∧ w.heap.size ≤ g ∧ w'.heap[g]? = some (.cells (l.flatMap frC).toArray 144 (0, 0)) ∧ Below w.heap.size w w' := by
 obtain ⟨m, A, c, h1, h2, h3⟩ := h
 obtain ⟨f, hf⟩ := get_lt h0
 obtain ⟨b, off, rfl, hb, hc⟩ := h2.at_ hf
 have hcells := frees_cells hc
 have ha := blk_lt h1
 obtain ⟨i0, hi, hz0, hz1, hz2⟩ := info_parts info_free
 obtain ⟨n, hln⟩ : ∃ n, l.length = n := ⟨_, rfl⟩
 have hfl := frC_len l
 rw [hln] at h0 hl h1 hfl ⊢
 obtain ⟨mc, hmc⟩ : ∃ mc, mc = madeCells (.agg #[.int .i64 0, .int .i64 0, .int .u64 0, .int .i64 0] : Value).cells (n * 4) := ⟨_, rfl⟩
 have hmcs : mc.size = n * 4 := by rw [hmc, size_madeCells]
 have hmk : ∀ W : World, (Instr.makeSlice 111 (.int .i64 (n : Nat)) (.int .i64 (n : Nat))).run Tryz.prog W = .ok (.slice (some ⟨W.heap.size, 0, none⟩) n n) (W.alloc (.cells mc 144)) := fun W => by
  have := run_make (P := Tryz.prog) W 111 144 i0 _ Tryz.underlying111 hi hz0 .i64 .i64 (n : Nat) (n : Nat) (by omega) (by omega) (by rw [hz2]; omega) (by omega)
  rw [hz1] at this
  rw [hmc]
  simpa using this
 have c1 : w.cell? ⟨a, 1, none⟩ = some (.slice (some ⟨b, off, none⟩) n c) := cell_blk (i := 1) h1 rfl
 have hB1 := (Below.refl w.heap.size w).alloc (Nat.le_refl _) (.cells mc 144)
 have c2 : (w.alloc (.cells mc 144)).cell? ⟨a, 1, none⟩ = some (.slice (some ⟨b, off, none⟩) n c) := (hB1.cell (p := ⟨a, 1, none⟩) ha).trans c1
 have H := Lib.hid (And.intro hcells (And.intro hfl (And.intro hmcs (And.intro hb (And.intro (heap_alloc_new w (.cells mc 144)) (And.intro (frC_one l) hi))))))
 clear hmc hmcs h1 h2 h3 hc hf hcells hln hfl hi hz0 hz2
 go_enter Tryz.func60, Tryz.ntmps60
 go_wp2_with (with_reducible refine wpList_copy_whole rfl _ _ 111 111 rfl 144 i0 4 Tryz.underlying111 H.out.2.2.2.2.2.2 hz1 w.heap.size n n c ⟨b, off, none⟩ rfl rfl mc 144 (l.flatMap frC) H.out.2.2.2.2.1 H.out.2.1 H.out.2.2.1 (fun j v hj => (hB1.cell (p := (⟨b, off, none⟩ : Addr).add j) (by rw [Addr.add_lit]; exact H.out.2.2.2.1)).trans (H.out.1 j v hj)) H.out.2.2.2.2.2.1 ?_)
 go_ret
 exact ⟨w.heap.size, rfl, Nat.le_refl _, setRow_heap _ _ _ _ _ _ H.out.2.2.2.2.1, below_setRow hB1 (Nat.le_refl _) _⟩

/-! ### Spots -/
def SpotRow (w : World) (g n k : Nat) (l : List Fr) : Prop :=
 ∃ cur, w.heap[g]? = some (.cells cur 38 (0, 0)) ∧ cur.size = n * 2 ∧ ∀ i f, i < k → l[i]? = some f → cur[i * 2]? = some (.int .i64 (f.n : Nat)) ∧ cur[i * 2 + 1]? = some (.int .i64 (f.d : Nat))
theorem SpotRow.of_block {w w' : World} {g n k : Nat} {l : List Fr} (h : SpotRow w g n k l) (e : w'.heap[g]? = w.heap[g]?) : SpotRow w' g n k l := by
 obtain ⟨cur, h1, h2⟩ := h
 exact ⟨cur, e.trans h1, h2⟩
theorem SpotRow.lt {w : World} {g n k : Nat} {l : List Fr} (h : SpotRow w g n k l) : g < w.heap.size := by
 obtain ⟨cur, h1, h2⟩ := h
 exact blk_lt h1
theorem SpotRow.old {w : World} {g n k : Nat} {l : List Fr} (h : SpotRow w g n k l) (hk : k < n) : ∃ u0 u1, w.cell? ⟨g, k * 2, none⟩ = some u0 ∧ w.cell? ⟨g, k * 2 + 1, none⟩ = some u1 ∧ w.frozen? ⟨g, k * 2, none⟩ = false ∧ w.frozen? ⟨g, k * 2 + 1, none⟩ = false := by
 obtain ⟨cur, h1, h2, _⟩ := h
 exact ⟨_, _, cell_blk h1 (Array.getElem?_eq_getElem (by omega)), cell_blk h1 (Array.getElem?_eq_getElem (by omega)), frozen_blk h1, frozen_blk h1⟩
theorem SpotRow.step {w : World} {g n k : Nat} {l : List Fr} {f : Fr} (h : SpotRow w g n k l) (hk : k < n) (hf : l[k]? = some f) :
  SpotRow ((w.setCell ⟨g, k * 2, none⟩ (.int .i64 (f.n : Nat))).setCell ⟨g, k * 2 + 1, none⟩ (.int .i64 (f.d : Nat))) g n (k + 1) l := by
 obtain ⟨cur, h1, h2, h3⟩ := h
 refine ⟨_, blk_put _ (blk_put _ h1), by simpa using h2, fun i x hi hx => ?_⟩
 by_cases e : i = k
 ·subst e
  obtain rfl : x = f := Option.some.inj (hx.symm.trans hf)
  constructor
  ·rw [Array.getElem?_setIfInBounds_ne (by omega), Array.getElem?_setIfInBounds_self_of_lt (by omega)]
  ·rw [Array.getElem?_setIfInBounds_self_of_lt (by simp; omega)]
 ·obtain ⟨x0, x1⟩ := h3 i x (by omega) hx
  constructor
  ·rw [Array.getElem?_setIfInBounds_ne (by omega), Array.getElem?_setIfInBounds_ne (by omega)]; exact x0
  ·rw [Array.getElem?_setIfInBounds_ne (by omega), Array.getElem?_setIfInBounds_ne (by omega)]; exact x1
theorem SpotRow.at_ {w : World} {g n i : Nat} {l : List Fr} {f : Fr} (h : SpotRow w g n l.length l) (hf : l[i]? = some f) : w.cell? ⟨g, i * 2, none⟩ = some (.int .i64 (f.n : Nat)) ∧ w.cell? ⟨g, i * 2 + 1, none⟩ = some (.int .i64 (f.d : Nat)) := by
 obtain ⟨cur, h1, h2, h3⟩ := h
 obtain ⟨x0, x1⟩ := h3 i f (List.getElem?_eq_some_iff.1 hf).1 hf
 exact ⟨cell_blk h1 x0, cell_blk h1 x1⟩
end Go.Proofs.YtgpfmlidchogcaaGreat

namespace Go.Proofs.YtgpfmlidchogcaaGreat
open Go.RowKit

end Go.Proofs.YtgpfmlidchogcaaGreat

namespace Go.Proofs.YtgpfmlidchogcaaGreat
open Go.RowKit
theorem row_dup (ns : List (List (Int × Int))) : ((frees ns).map spOf).Nodup := by
 suffices H : ∀ i, i ≤ ns.length → ((frees (ns.take i)).map spOf).Nodup by
  have := H ns.length (Nat.le_refl _)
  rwa [List.take_length] at this
 intro i
 induction i with
 | zero => intro _; simp [frees]
 | succ i ih =>
  intro hi
  obtain ⟨ds, hd⟩ := get_lt (l := ns) (k := i) (by omega)
  rw [frees_next hd]
  suffices H : ∀ k, k ≤ ds.length → ((frees (ns.take i) ++ frNode i (ds.take k)).map spOf).Nodup by
   have := H ds.length (Nat.le_refl _)
   rwa [List.take_length] at this
  intro k
  induction k with
  | zero => intro _; simpa [frNode] using ih (by omega)
  | succ k ihk =>
   intro hk
   obtain ⟨d, hd'⟩ := get_lt (l := ds) (k := k) (by omega)
   rw [frNode_next hd', ← List.append_assoc, List.map_append, List.map_singleton]
   refine List.nodup_append.2 ⟨ihk (by omega), by simp, fun a ha b hb => ?_⟩
   simp at hb
   subst hb
   rintro rfl
   exact spot_new ha
theorem frees_take_ge {ns : List (List (Int × Int))} (h : cluOk ns = true) : ∀ i, i ≤ ns.length → i ≤ (frees (ns.take i)).length
 | 0, _ => Nat.zero_le _
 | i + 1, hi => by
  obtain ⟨ds, hd⟩ := get_lt (l := ns) (k := i) (by omega)
  rw [frees_next hd, List.length_append, frNode_len]
  have := frees_take_ge h i (by omega)
  have := nodeOk_len (cluOk_node h hd)
  omega
theorem frees_pos {ns : List (List (Int × Int))} (h : cluOk ns = true) : 0 < (frees ns).length := by
 have := frees_take_ge h ns.length (Nat.le_refl _)
 rw [List.take_length] at this
 have := cluOk_len h
 omega
theorem frNode_ok {i : Nat} {ds : List (Int × Int)} (h : nodeOk ds = true) {f : Fr} (hf : f ∈ frNode i ds) : f.m < 18446744073709551616 ∧ f.c ≤ 1024 := by
 unfold frNode at hf
 obtain ⟨⟨⟨g, c⟩, j⟩, hp, rfl⟩ := List.mem_map.1 hf
 have hp2 := List.mem_zipIdx' hp
 have hd : ds[j]? = some (g, c) := by rw [List.getElem?_eq_getElem hp2.1]; exact congrArg some hp2.2.symm
 obtain ⟨g1, g2, c1, c2⟩ := nodeOk_dom h hd
 refine ⟨?_, by simp [frAt]; omega⟩
 exact first_lt (k := g.toNat) (by omega)
theorem frees_ok {ns : List (List (Int × Int))} (h : cluOk ns = true) : ∀ f ∈ frees ns, f.m < 18446744073709551616 ∧ f.c ≤ 1024 := by
 intro f hf
 unfold frees at hf
 obtain ⟨p, hp, hf⟩ := List.mem_flatMap.1 hf
 have hp2 := List.mem_zipIdx' hp
 have hd : ns[p.2]? = some p.1 := by rw [List.getElem?_eq_getElem hp2.1, ← hp2.2]
 exact frNode_ok (cluOk_node h hd) hf
theorem all_law (a k : Nat) (ns : List (List (Int × Int))) (hok : cluOk ns = true) (W : World) (h : TopoAt W a k (frees ns)) :
  Calls Tryz.prog 60 #[.pointer (some ⟨a, 0, none⟩)] W fun e w' => ∃ g, e = .returned (.slice (some ⟨g, 0, none⟩) (frees ns).length (frees ns).length) ∧ W.heap.size ≤ g ∧ w'.heap[g]? = some (.cells ((frees ns).flatMap frC).toArray 144 (0, 0)) ∧ Below W.heap.size W w' :=
 all_any a k _ W h (frees_pos hok) (by have := frees_len hok; omega)
end Go.Proofs.YtgpfmlidchogcaaGreat
