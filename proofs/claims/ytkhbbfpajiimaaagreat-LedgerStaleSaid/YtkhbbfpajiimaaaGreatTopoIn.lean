/- May a cluster be? The contracts of layer 2's own tests of what comes in. -/
import Derived.Deep.QuietTactic
import Derived.BigQuiet
import Derived.Test.YtkhbbfpajiimaaaGreatTopoMem
namespace Go.Proofs.YtkhbbfpajiimaaaGreat
open Go.RowKit
def inB (n a b : Int) : Bool := decide (a ≤ n) && decide (n ≤ b)
theorem within_any (n a b : Int) (r : Bool) (hr : inB n a b = r) (w : World) :
    Calls Tryz.prog 143 #[.int .i64 n, .int .i64 a, .int .i64 b] w fun e w' => e = .returned (.bool r) ∧ w = w' := by
  unfold inB at hr
  by_cases h1 : a ≤ n
  · by_cases h2 : n ≤ b
    · have e1 : decide (a ≤ n) = true := by simpa using h1
      have e2 : decide (n ≤ b) = true := by simpa using h2
      rw [e1, e2] at hr
      subst hr
      go_enter Tryz.func143, Tryz.ntmps143
      go_wp2
      go_ret
      exact ⟨rfl, rfl⟩
    · have e1 : decide (a ≤ n) = true := by simpa using h1
      have e2 : decide (n ≤ b) = false := by simpa using h2
      rw [e1, e2] at hr
      subst hr
      go_enter Tryz.func143, Tryz.ntmps143
      go_wp2
      go_ret
      exact ⟨rfl, rfl⟩
  · have e1 : decide (a ≤ n) = false := by simpa using h1
    rw [e1] at hr
    subst hr
    go_enter Tryz.func143, Tryz.ntmps143
    go_wp2
    go_ret
    exact ⟨rfl, rfl⟩

/-- What a domain, a node, a cluster must be. -/
def domOk (d : Int × Int) : Bool := inB d.1 0 16 && inB d.2 0 1024
def nodeOk (ds : List (Int × Int)) : Bool := inB ds.length 1 4 && ds.all domOk
def cluOk (ns : List (List (Int × Int))) : Bool := inB ns.length 1 16 && ns.all nodeOk
theorem ret_bool {a b : Bool} (h : a = b) : Ending.returned (.bool a) = .returned (.bool b) := by rw [h]
def fewB (ns : List (List (Int × Int))) : Bool := decide (ns.length ≤ 40) && ns.all fun ds => decide (ds.length ≤ 40)
set_option maxRecDepth 100000 in
set_option maxHeartbeats 1000000 in
theorem node_loop (b off c B n : Nat) (ds : List (Int × Int)) (hn : ds.length = n) (w : World) (hb : b < B) (hc : ∀ i x, ds[i]? = some x → DomAt w b (off + i * 2) x) (hB : B ≤ w.heap.size) (h1 : 1 ≤ n) (h4 : n ≤ 4) (r : Bool) (hr : ds.all domOk = r) :
    Calls Tryz.prog 144 #[.agg #[.slice (some ⟨b, off, none⟩) n c]] w fun e w' => e = .returned (.bool r) ∧ Below w.heap.size w w' := by
  have q1 := Lib.hid (within_any (n : Int) 1 4 true (by simp [inB]; omega))
  have Q := Lib.hid (And.intro hn (And.intro hc hr))
  clear hn hc hr
  go_enter Tryz.func144, Tryz.ntmps144
  go_wp2_with (go_at_call 143; with_reducible refine (q1.out _).mono ?_; rintro e w' ⟨rfl, rfl⟩)
  go_loopw [13] (fun i wr => ∃ k : Nat, i = .int .i64 k ∧ k ≤ n ∧ Below w.heap.size w wr ∧ Hid ((ds.take k).all domOk = true)) (fun i _ => n - (intOf i).toNat)
  case atStart => exact ⟨0, rfl, by omega, (Below.refl _ _).alloc (Nat.le_refl _) _, Lib.hid rfl⟩
  case round =>
    obtain ⟨k, rfl, hk, hBl, hall⟩ := hrel
    have hBs := hBl.size
    by_cases hlt : k < n
    · obtain ⟨⟨g, p⟩, hx⟩ := get_lt (l := ds) (by rw [Q.out.1]; exact hlt)
      have hd := (Q.out.2.1 k _ hx).keep (B := w.heap.size) (by omega) hBl
      obtain ⟨c0, c1⟩ := hd
      have t0 : decide (k < n) = true := by simpa using hlt
      have X := Lib.hid hx
      clear hx
      by_cases hg : inB g 0 16 = true
      · have q2 := Lib.hid (within_any g 0 16 true hg)
        by_cases hp : inB p 0 1024 = true
        · have q3 := Lib.hid (within_any p 0 1024 true hp)
          have N := Lib.hid (all_next X.out hall.out (by simp [domOk, hg, hp]))
          clear hg hp
          go_wp2_with (go_at_call 143; first | ((with_reducible refine (q2.out _).mono ?_); rintro e w' ⟨rfl, rfl⟩) | ((with_reducible refine (q3.out _).mono ?_); rintro e w' ⟨rfl, rfl⟩))
          go_round
          case rel => exact ⟨k + 1, by go_num, by omega, hBl.alloc hBs _, N⟩
          case measure => simp [intOf]; omega
        · have q3 := Lib.hid (within_any p 0 1024 false (by simpa using hp))
          have N := Lib.hid (all_no (p := domOk) X.out (by simp [domOk, hp]))
          clear hg hp
          go_wp2_with (go_at_call 143; first | ((with_reducible refine (q2.out _).mono ?_); rintro e w' ⟨rfl, rfl⟩) | ((with_reducible refine (q3.out _).mono ?_); rintro e w' ⟨rfl, rfl⟩))
          go_ret
          exact ⟨ret_bool (N.out.symm.trans Q.out.2.2), hBl.alloc hBs _⟩
      · have q2 := Lib.hid (within_any g 0 16 false (by simpa using hg))
        have N := Lib.hid (all_no (p := domOk) X.out (by simp [domOk, hg]))
        clear hg
        go_wp2_with (go_at_call 143; (with_reducible refine (q2.out _).mono ?_); rintro e w' ⟨rfl, rfl⟩)
        go_ret
        exact ⟨ret_bool (N.out.symm.trans Q.out.2.2), hBl.alloc hBs _⟩
    · obtain rfl : k = n := by omega
      have N := hall.out
      rw [← Q.out.1] at N
      have N := Lib.hid (all_end N)
      clear hlt
      go_wp2
      go_ret
      exact ⟨ret_bool (N.out.symm.trans Q.out.2.2), hBl⟩
theorem node_no (A : Option Addr) (n c : Nat) (hn : inB n 1 4 = false) (w : World) :
    Calls Tryz.prog 144 #[.agg #[.slice A n c]] w fun e w' => e = .returned (.bool false) ∧ Below w.heap.size w w' := by
  have q1 := Lib.hid (within_any (n : Int) 1 4 false hn)
  clear hn
  go_enter Tryz.func144, Tryz.ntmps144
  go_wp2_with (go_at_call 143; with_reducible refine (q1.out _).mono ?_; rintro e w' ⟨rfl, rfl⟩)
  go_ret
  exact ⟨rfl, (Below.refl _ _).alloc (Nat.le_refl _) _⟩
theorem node_any (A : Option Addr) (c B : Nat) (ds : List (Int × Int)) (w : World) (h : Doms w B A ds) (hB : B ≤ w.heap.size) (r : Bool) (hr : nodeOk ds = r) :
    Calls Tryz.prog 144 #[.agg #[.slice A ds.length c]] w fun e w' => e = .returned (.bool r) ∧ Below w.heap.size w w' := by
  by_cases h1 : inB ds.length 1 4 = true
  · have h2 := h1
    simp [inB] at h2
    obtain ⟨x, hx⟩ := get_lt (l := ds) (k := 0) (by omega)
    obtain ⟨b, off, rfl, hb, hc⟩ := h.at_ hx
    exact node_loop b off c B ds.length ds rfl w hb hc hB (by omega) (by omega) r (by rw [← hr]; simp [nodeOk, h1])
  · have h2 : inB ds.length 1 4 = false := by simpa using h1
    have : r = false := by rw [← hr]; simp [nodeOk, h2]
    subst this
    exact node_no A _ c h2 w
set_option maxRecDepth 100000 in
set_option maxHeartbeats 1000000 in
theorem clu_loop (b off c B n : Nat) (ns : List (List (Int × Int))) (hn : ns.length = n) (w : World) (hb : b < B) (hc : ∀ i x, ns[i]? = some x → NodeAt w B b (off + i * 1) x) (hB : B ≤ w.heap.size) (h1 : 1 ≤ n) (h4 : n ≤ 16) (r : Bool) (hr : ns.all nodeOk = r) :
    Calls Tryz.prog 112 #[.agg #[.slice (some ⟨b, off, none⟩) n c]] w fun e w' => e = .returned (.bool r) ∧ Below w.heap.size w w' := by
  have q1 := Lib.hid (within_any (n : Int) 1 16 true (by simp [inB]; omega))
  have Q := Lib.hid (And.intro hn (And.intro hc hr))
  clear hn hc hr
  go_enter Tryz.func112, Tryz.ntmps112
  go_wp2_with (go_at_call 143; with_reducible refine (q1.out _).mono ?_; rintro e w' ⟨rfl, rfl⟩)
  go_loopw [13] (fun i wr => ∃ k : Nat, i = .int .i64 k ∧ k ≤ n ∧ Below w.heap.size w wr ∧ Hid ((ns.take k).all nodeOk = true)) (fun i _ => n - (intOf i).toNat)
  case atStart => exact ⟨0, rfl, by omega, (Below.refl _ _).alloc (Nat.le_refl _) _, Lib.hid rfl⟩
  case round =>
    obtain ⟨k, rfl, hk, hBl, hall⟩ := hrel
    have hBs := hBl.size
    by_cases hlt : k < n
    · obtain ⟨ds, hx⟩ := get_lt (l := ns) (by rw [Q.out.1]; exact hlt)
      obtain ⟨A', c', c0, hl1, hl2, hds⟩ := (Q.out.2.1 k _ hx).keep (B' := w.heap.size) hb (hBl.mono hB) hB
      rw [Nat.mul_one] at c0
      have t0 : decide (k < n) = true := by simpa using hlt
      have X := Lib.hid hx
      clear hx
      have NA := fun (r : Bool) (hr : nodeOk ds = r) => Lib.hid (fun (W : World) (hW : Below w.heap.size wr W) => node_any A' c' w.heap.size ds W (Doms.keep hds hW (Nat.le_refl _)) (by have := hW.size; omega) r hr)
      have hD := Lib.hid (And.intro hds (And.intro hl1 hl2))
      clear hds hl1 hl2
      cases hg : nodeOk ds
      · have NA := NA _ hg
        have N := Lib.hid (all_no (p := nodeOk) X.out hg)
        clear hg
        go_wp2_with (go_at_call 144; refine (NA.out _ ((Below.refl _ _).alloc hBs _)).mono ?_; rintro e w2 ⟨rfl, hb2⟩)
        go_ret
        exact ⟨ret_bool (N.out.symm.trans Q.out.2.2), below_step (hBl.alloc hBs _) hb2⟩
      · have NA := NA _ hg
        have N := Lib.hid (all_next X.out hall.out hg)
        clear hg
        go_wp2_with (go_at_call 144; refine (NA.out _ ((Below.refl _ _).alloc hBs _)).mono ?_; rintro e w2 ⟨rfl, hb2⟩)
        go_roundw
        case rel => exact ⟨k + 1, by go_num, by omega, below_step (hBl.alloc hBs _) hb2, N⟩
        case measure => simp [intOf]; omega
    · obtain rfl : k = n := by omega
      have N := hall.out
      rw [← Q.out.1] at N
      have N := Lib.hid (all_end N)
      clear hlt
      go_wp2
      go_ret
      exact ⟨ret_bool (N.out.symm.trans Q.out.2.2), hBl⟩
theorem clu_no (A : Option Addr) (n c : Nat) (hn : inB n 1 16 = false) (w : World) :
    Calls Tryz.prog 112 #[.agg #[.slice A n c]] w fun e w' => e = .returned (.bool false) ∧ Below w.heap.size w w' := by
  have q1 := Lib.hid (within_any (n : Int) 1 16 false hn)
  clear hn
  go_enter Tryz.func112, Tryz.ntmps112
  go_wp2_with (go_at_call 143; with_reducible refine (q1.out _).mono ?_; rintro e w' ⟨rfl, rfl⟩)
  go_ret
  exact ⟨rfl, (Below.refl _ _).alloc (Nat.le_refl _) _⟩
theorem clu_any (A : Option Addr) (c B : Nat) (ns : List (List (Int × Int))) (w : World) (h : Nodes w B A ns) (hB : B ≤ w.heap.size) (r : Bool) (hr : cluOk ns = r) :
    Calls Tryz.prog 112 #[.agg #[.slice A ns.length c]] w fun e w' => e = .returned (.bool r) ∧ Below w.heap.size w w' := by
  by_cases h1 : inB ns.length 1 16 = true
  · have h2 := h1
    simp [inB] at h2
    obtain ⟨x, hx⟩ := get_lt (l := ns) (k := 0) (by omega)
    obtain ⟨b, off, rfl, hb, hc⟩ := h.at_ hx
    exact clu_loop b off c B ns.length ns rfl w hb hc hB (by omega) (by omega) r (by rw [← hr]; simp [cluOk, h1])
  · have h2 : inB ns.length 1 16 = false := by simpa using h1
    have : r = false := by rw [← hr]; simp [cluOk, h2]
    subst this
    exact clu_no A _ c h2 w
/-! Right: the document's answer. -/
theorem dom_five (g p : Int) : (domOk (g, p) = false ∧ (g < 0 ∨ (0 ≤ g ∧ 16 < g) ∨ (0 ≤ g ∧ g ≤ 16 ∧ p < 0) ∨ (0 ≤ g ∧ g ≤ 16 ∧ 0 ≤ p ∧ 1024 < p))) ∨ (domOk (g, p) = true ∧ 0 ≤ g ∧ g ≤ 16 ∧ 0 ≤ p ∧ p ≤ 1024) := by
  unfold domOk inB
  by_cases h1 : 0 ≤ g <;> by_cases h2 : g ≤ 16 <;> by_cases h3 : 0 ≤ p <;> by_cases h4 : p ≤ 1024 <;> simp [h1, h2, h3, h4] <;> omega
set_option maxRecDepth 100000 in
set_option maxHeartbeats 2000000 in
theorem right_loop (b off c B n : Nat) (ns : List (List (Int × Int))) (hn : ns.length = n) (w : World) (hb : b < B) (hc : ∀ i x, ns[i]? = some x → NodeAt w B b (off + i * 1) x) (hB : B ≤ w.heap.size) (h1 : 1 ≤ n) (h4 : n ≤ 16) (r : Bool) (hr : ns.all nodeOk = r) :
    Calls Tryz.prog 28 #[.agg #[.slice (some ⟨b, off, none⟩) n c]] w fun e w' => e = .returned (.bool r) ∧ Below w.heap.size w w' := by
  have Q := Lib.hid (And.intro hn (And.intro hc hr))
  clear hn hc hr
  have s1 : decide ((n : Int) < 1) = false := by simp; omega
  have s2 : decide (16 < (n : Int)) = false := by simp; omega
  go_enter Tryz.func28, Tryz.ntmps28
  go_wp2
  go_loopw [3] (fun i wr => ∃ k : Nat, i = .int .i64 k ∧ k ≤ n ∧ Below w.heap.size w wr ∧ wr.cell? ⟨w.heap.size, 0, none⟩ = some (.slice (some ⟨b, off, none⟩) n c) ∧ Hid ((ns.take k).all nodeOk = true)) (fun i _ => n - (intOf i).toNat)
  case atStart => exact ⟨0, rfl, by omega, (Below.refl _ _).alloc (Nat.le_refl _) _, by go_simp, Lib.hid rfl⟩
  case round =>
    obtain ⟨k, rfl, hk, hBl, hbox, hall⟩ := hrel
    have hBs := hBl.size
    by_cases hlt : k < n
    · obtain ⟨ds, hx⟩ := get_lt (l := ns) (by rw [Q.out.1]; exact hlt)
      obtain ⟨A', c', c0, hl1, hl2, hds⟩ := (Q.out.2.1 k _ hx).keep (B' := w.heap.size) hb (hBl.mono hB) hB
      rw [Nat.mul_one] at c0
      have t0 : decide (k < n) = true := by simpa using hlt
      have X := Lib.hid hx
      have hD := Lib.hid (And.intro hl1 hl2)
      clear hx hl1 hl2
      by_cases hg : inB ds.length 1 4 = true
      · have hg' := hg
        simp [inB] at hg'
        obtain ⟨y, hy⟩ := get_lt (l := ds) (k := 0) (by omega)
        obtain ⟨b', off', rfl, hb', hc'⟩ := hds.at_ hy
        clear hy
        obtain ⟨m, hm⟩ : ∃ m, ds.length = m := ⟨_, rfl⟩
        have M := Lib.hid hm
        have HG := Lib.hid hg
        rw [hm] at c0 hg'
        have u1 : decide ((m : Int) < 1) = false := by simp; omega
        have u2 : decide (4 < (m : Int)) = false := by simp; omega
        have D := Lib.hid hc'
        clear hm hg hc'
        go_wp2
        go_loopw [5] (fun i wr' => ∃ j : Nat, i = .int .i64 j ∧ j ≤ m ∧ wr' = wr ∧ Hid ((ds.take j).all domOk = true)) (fun i _ => m - (intOf i).toNat)
        case atStart => exact ⟨0, rfl, by omega, rfl, Lib.hid rfl⟩
        case round =>
          obtain ⟨j, rfl, hj, rfl, hall2⟩ := hrel
          by_cases hjl : j < m
          · obtain ⟨⟨g, p⟩, hy⟩ := get_lt (l := ds) (by rw [M.out]; exact hjl)
            obtain ⟨d0, d1⟩ := D.out j _ hy
            have s0 : decide (j < m) = true := by simpa using hjl
            have Y := Lib.hid hy
            clear hy
            rcases dom_five g p with ⟨e, h⟩ | ⟨e, h⟩
            · have N := Lib.hid (all_no (p := domOk) Y.out e)
              have N2 := Lib.hid (all_no (p := nodeOk) X.out (by unfold nodeOk; rw [N.out]; simp))
              clear e
              rcases h with h | ⟨_, h⟩ | ⟨h, h', h''⟩ | ⟨h, h', h'', h3⟩
              · have v1 : decide (g < 0) = true := by simpa using h
                go_wp2
                go_ret
                exact ⟨ret_bool (N2.out.symm.trans Q.out.2.2), hBl⟩
              · have v1 : decide (g < 0) = false := by simp; omega
                have v2 : decide (16 < g) = true := by simpa using h
                go_wp2
                go_ret
                exact ⟨ret_bool (N2.out.symm.trans Q.out.2.2), hBl⟩
              · have v1 : decide (g < 0) = false := by simp; omega
                have v2 : decide (16 < g) = false := by simp; omega
                have v3 : decide (p < 0) = true := by simp; omega
                go_wp2
                go_ret
                exact ⟨ret_bool (N2.out.symm.trans Q.out.2.2), hBl⟩
              · have v1 : decide (g < 0) = false := by simp; omega
                have v2 : decide (16 < g) = false := by simp; omega
                have v3 : decide (p < 0) = false := by simp; omega
                have v4 : decide (1024 < p) = true := by simp; omega
                go_wp2
                go_ret
                exact ⟨ret_bool (N2.out.symm.trans Q.out.2.2), hBl⟩
            · have N := Lib.hid (all_next Y.out hall2.out e)
              clear e
              have v1 : decide (g < 0) = false := by simp; omega
              have v2 : decide (16 < g) = false := by simp; omega
              have v3 : decide (p < 0) = false := by simp; omega
              have v4 : decide (1024 < p) = false := by simp; omega
              go_wp2
              go_roundw
              case rel => exact ⟨j + 1, by go_num, by omega, by trivial, N⟩
              case measure => simp [intOf]; omega
          · obtain rfl : j = m := by omega
            have N := hall2.out
            rw [← M.out] at N
            have N2 := Lib.hid (all_next X.out hall.out (show nodeOk ds = true by unfold nodeOk; rw [HG.out, all_end N]; rfl))
            clear hjl N
            go_wp2
            go_roundw
            case rel => exact ⟨k + 1, by go_num, by omega, hBl, hbox, N2⟩
            case measure => simp [intOf]; omega
      · have N := Lib.hid (all_no (p := nodeOk) X.out (by unfold nodeOk; simp [hg]))
        by_cases h0 : ds.length < 1
        · have u1 : decide ((ds.length : Int) < 1) = true := by simp; omega
          clear hg hds
          go_wp2
          go_ret
          exact ⟨ret_bool (N.out.symm.trans Q.out.2.2), hBl⟩
        · have u1 : decide ((ds.length : Int) < 1) = false := by simp; omega
          have u2 : decide (4 < (ds.length : Int)) = true := by simp [inB] at hg; simp; omega
          clear hg hds
          go_wp2
          go_ret
          exact ⟨ret_bool (N.out.symm.trans Q.out.2.2), hBl⟩
    · obtain rfl : k = n := by omega
      have N := hall.out
      rw [← Q.out.1] at N
      have N := Lib.hid (all_end N)
      clear hlt
      go_wp2
      go_ret
      exact ⟨ret_bool (N.out.symm.trans Q.out.2.2), hBl⟩
theorem right_no (A : Option Addr) (n c : Nat) (hn : inB n 1 16 = false) (w : World) :
    Calls Tryz.prog 28 #[.agg #[.slice A n c]] w fun e w' => e = .returned (.bool false) ∧ Below w.heap.size w w' := by
  simp [inB] at hn
  by_cases h0 : n < 1
  · have u1 : decide ((n : Int) < 1) = true := by simp; omega
    clear hn
    go_enter Tryz.func28, Tryz.ntmps28
    go_wp2
    go_ret
    exact ⟨rfl, (Below.refl _ _).alloc (Nat.le_refl _) _⟩
  · have u1 : decide ((n : Int) < 1) = false := by simp; omega
    have u2 : decide (16 < (n : Int)) = true := by simp; omega
    clear hn
    go_enter Tryz.func28, Tryz.ntmps28
    go_wp2
    go_ret
    exact ⟨rfl, (Below.refl _ _).alloc (Nat.le_refl _) _⟩
theorem right_any (A : Option Addr) (c B : Nat) (ns : List (List (Int × Int))) (w : World) (h : Nodes w B A ns) (hB : B ≤ w.heap.size) (r : Bool) (hr : cluOk ns = r) :
    Calls Tryz.prog 28 #[.agg #[.slice A ns.length c]] w fun e w' => e = .returned (.bool r) ∧ Below w.heap.size w w' := by
  by_cases h1 : inB ns.length 1 16 = true
  · have h2 := h1
    simp [inB] at h2
    obtain ⟨x, hx⟩ := get_lt (l := ns) (k := 0) (by omega)
    obtain ⟨b, off, rfl, hb, hc⟩ := h.at_ hx
    exact right_loop b off c B ns.length ns rfl w hb hc hB (by omega) (by omega) r (by rw [← hr]; simp [cluOk, h1])
  · have h2 : inB ns.length 1 16 = false := by simpa using h1
    have : r = false := by rw [← hr]; simp [cluOk, h2]
    subst this
    exact right_no A _ c h2 w
end Go.Proofs.YtkhbbfpajiimaaaGreat
