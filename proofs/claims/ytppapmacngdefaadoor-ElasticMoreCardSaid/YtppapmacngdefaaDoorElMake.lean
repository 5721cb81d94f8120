/- Most of package elastic. -/
import Derived.Test.YtppapmacngdefaaDoorElMost
import Derived.Test.YtppapmacngdefaaDoorElHead
set_option linter.unusedVariables false
set_option maxRecDepth 100000
namespace Go.Proofs.YtppapmacngdefaaDoor
open Go.RowKit
open PR
/-- What is tried of so many members. -/
abbrev PlR (S : Shp) (lv : List Fe) (g c : Int) : Nat → Int → Prop := fun m r => r = plE S lv g c m
set_option maxHeartbeats 8000000 in
theorem mostcl_any (a b d n1 : Nat) (A1 : Option Addr) (c1 : Nat) (lv : List Fe) (g c : Int) (S : Shp) (p : Nat) (w : World) (h : Fes w w.heap.size A1 lv) (hn1 : n1 = lv.length) (hn : lv.length ≤ 500000) (hw : S.Wf) (hf : ∀ f ∈ lv, FeOk f) (hT : Tab w) (hok : S.ok = true) (h1 : 1 ≤ p) (h16 : p ≤ 16)
    (l4 : w.cell? ⟨a, 4, none⟩ = some (.slice A1 n1 c1)) (u0 : w.cell? ⟨b, 0, none⟩ = some (.int .i64 g)) (u1 : w.cell? ⟨b, 1, none⟩ = some (.int .i64 c))
    (j4 : w.cell? ⟨d, 4, none⟩ = some (.int .i64 S.g)) (j5 : w.cell? ⟨d, 5, none⟩ = some (.int .i64 S.c)) (j6 : w.cell? ⟨d, 6, none⟩ = some (.int .i64 S.mn)) (j7 : w.cell? ⟨d, 7, none⟩ = some (.int .i64 S.mx)) :
    Calls Tryd.prog 16 #[.int .i64 (p : Nat), .pointer (some ⟨a, 0, none⟩), .pointer (some ⟨b, 0, none⟩), .pointer (some ⟨d, 0, none⟩)] w fun e w' => TryR (PlR S lv g c) (placeF S lv) p w' e ∧ Below w.heap.size w w' := by
  have hP := Lib.hid (show Calls Tryd.prog 17 #[.slice A1 n1 c1, .agg #[.int .i64 g, .int .i64 c], .agg #[.int .i64 S.g, .int .i64 S.c, .int .i64 S.mn, .int .i64 S.mx], .int .i64 (p : Nat)] w (fun e w' => TryR (PlR S lv g c) (placeF S lv) p w' e ∧ Below w.heap.size w w') from by
    rw [hn1]
    exact placed_any A1 c1 w.heap.size lv g c S p w h (Nat.le_refl _) hn hw hf hT hok h1 h16)
  clear h hn1 hn hw hf hT hok h1 h16
  go_enter Tryd.func16, Tryd.ntmps16
  go_wp2_with fail
  refine hP.out.mono ?_
  rintro e w1 ⟨⟨A, k, c9, r, rfl, hR, hS⟩, hb⟩
  have HR := Lib.hid (And.intro hR (And.intro hS hb))
  clear hR hS hb hP l4 u0 u1 j4 j5 j6 j7
  go_wp2
  go_ret2
  exact ⟨⟨A, k, c9, r, rfl, HR.out.1, HR.out.2.1⟩, HR.out.2.2⟩
/-- What Most tells: how many, or an error. -/
def MostE (L : Lk) (j : Jb) (n : Nat) (r : Int) : Prop := (j.S.ok = false ∧ r = 1) ∨ (j.S.ok = true ∧ ((leftL L j.q = none ∧ r = 3) ∨ ∃ U, leftL L j.q = some U ∧ MostR j.S L.lv U.g U.c n r))
def MostJ (L : Lk) (j : Jb) (w' : World) (e : Ending) : Prop :=
  ∃ A k c r n, e = .returned (.tuple #[.slice A k c, .int .i64 r]) ∧ MostE L j n r ∧ (r = 0 → k = n ∧ k = (placeF j.S L.lv n).length ∧ k ≤ c ∧ c ≤ maxLen ∧ Fes w' w'.heap.size A (placeF j.S L.lv n)) ∧ (r ≠ 0 → A = none ∧ k = 0 ∧ c = 0)
set_option maxHeartbeats 8000000 in
theorem most_any (L : Lk) (j : Jb) (w : World) (h : LkIn w w.heap.size L) (hW : LkW L) (hj : JbW j) (hn : L.lv.length ≤ 500000) (hT : Tab w) :
    Calls Tryd.prog 7 #[lkV L, jbV j] w fun e w' => MostJ L j w' e ∧ Below w.heap.size w w' := by
  obtain ⟨n1, hn1⟩ : ∃ n, n = L.lv.length := ⟨_, rfl⟩
  obtain ⟨n2, hn2⟩ : ∃ n, n = L.lf.length := ⟨_, rfl⟩
  obtain ⟨n3, hn3⟩ : ∃ n, n = L.le.length := ⟨_, rfl⟩
  obtain ⟨n4, hn4⟩ : ∃ n, n = L.lw.length := ⟨_, rfl⟩
  obtain ⟨n5, hn5⟩ : ∃ n, n = L.lr.length := ⟨_, rfl⟩
  have HT := Lib.hid hT
  have HL1 := Lib.hid (And.intro h.v (And.intro hn1 (And.intro hn (And.intro hW.v hj.S))))
  have hL := Lib.hid (fun W (hk : Below w.heap.size w W) => show Calls Tryd.prog 14 #[.agg #[.int .i64 L.now, .int .i64 L.hd, .int .i64 L.pr, .int .i64 L.to, .slice L.A1 n1 L.c1, .slice L.A2 n2 L.c2, .slice L.A3 n3 L.c3, .slice L.A4 n4 L.c4, .slice L.A5 n5 L.c5], .agg #[.int .i64 j.id, .int .i64 j.q, .int .i64 j.p, .int .i64 j.r, .int .i64 j.g, .int .i64 j.c, .int .i64 j.mn, .int .i64 j.mx]] W (fun e w' => ForR L j e ∧ Below W.heap.size W w') from by
    have h9 := leftfor_any L j W (h.keep hk hk.size) hj hW
    unfold lkV lkA jbV jbA at h9
    rw [← hn1, ← hn2, ← hn3, ← hn4, ← hn5] at h9
    exact h9)
  unfold lkV lkA jbV jbA
  rw [← hn1, ← hn2, ← hn3, ← hn4, ← hn5]
  cases hok : j.S.ok
  · have HO := Lib.hid hok
    clear hok hn1 hn2 hn3 hn4 hn5 h hW hj hn
    obtain ⟨B0, hB0⟩ : ∃ B, B = w.heap.size := ⟨_, rfl⟩
    rw [← hB0]
    have HB0 := Lib.hid hB0
    clear hB0
    have HBel := Lib.hid (Below.refl w.heap.size w)
    have hlow : w.heap.size ≤ w.heap.size := Nat.le_refl _
    go_enter Tryd.func7, Tryd.ntmps7
    go_wp2_with fail
    obtain ⟨V1, hV1⟩ : ∃ W, W = (w.alloc (.cells #[.int .i64 L.now, .int .i64 L.hd, .int .i64 L.pr, .int .i64 L.to, .slice L.A1 n1 L.c1, .slice L.A2 n2 L.c2, .slice L.A3 n3 L.c3, .slice L.A4 n4 L.c4, .slice L.A5 n5 L.c5] 28)).alloc (.cells #[.int .i64 j.id, .int .i64 j.q, .int .i64 j.p, .int .i64 j.r, .int .i64 j.g, .int .i64 j.c, .int .i64 j.mn, .int .i64 j.mx] 32) := ⟨_, rfl⟩
    rw [← hV1]
    have hzV1 : V1.heap.size = w.heap.size + 1 + 1 := by rw [hV1]; simp
    replace HBel : Hid (Below w.heap.size w V1) := Lib.hid (by rw [hV1]; exact ((HBel.out.alloc (hlow) _).alloc (by simp <;> omega) _))
    have B_l : Hid (V1.heap[w.heap.size]? = some (.cells #[.int .i64 L.now, .int .i64 L.hd, .int .i64 L.pr, .int .i64 L.to, .slice L.A1 n1 L.c1, .slice L.A2 n2 L.c2, .slice L.A3 n3 L.c3, .slice L.A4 n4 L.c4, .slice L.A5 n5 L.c5] 28 (0, 0))) := Lib.hid (by
      have h9 := heap_alloc_new (w) (.cells #[.int .i64 L.now, .int .i64 L.hd, .int .i64 L.pr, .int .i64 L.to, .slice L.A1 n1 L.c1, .slice L.A2 n2 L.c2, .slice L.A3 n3 L.c3, .slice L.A4 n4 L.c4, .slice L.A5 n5 L.c5] 28)
      rw [hV1]; exact ((Below.heap_alloc _ _ _ (by simp <;> omega)).trans h9))
    have B_j : Hid (V1.heap[w.heap.size + 1]? = some (.cells #[.int .i64 j.id, .int .i64 j.q, .int .i64 j.p, .int .i64 j.r, .int .i64 j.g, .int .i64 j.c, .int .i64 j.mn, .int .i64 j.mx] 32 (0, 0))) := Lib.hid (by
      have h9 := heap_alloc_new (w.alloc (.cells #[.int .i64 L.now, .int .i64 L.hd, .int .i64 L.pr, .int .i64 L.to, .slice L.A1 n1 L.c1, .slice L.A2 n2 L.c2, .slice L.A3 n3 L.c3, .slice L.A4 n4 L.c4, .slice L.A5 n5 L.c5] 28)) (.cells #[.int .i64 j.id, .int .i64 j.q, .int .i64 j.p, .int .i64 j.r, .int .i64 j.g, .int .i64 j.c, .int .i64 j.mn, .int .i64 j.mx] 32)
      rw [World.size_alloc] at h9
      rw [hV1]; exact h9)
    obtain ⟨N_l, hN_l⟩ : ∃ N, N = w.heap.size := ⟨_, rfl⟩
    obtain ⟨N_j, hN_j⟩ : ∃ N, N = w.heap.size + 1 := ⟨_, rfl⟩
    (try rw [← hN_j])
    rw [← hN_j] at B_j
    (try rw [← hN_l])
    rw [← hN_l] at B_l
    have l_l : N_l < V1.heap.size := by omega
    have l_j : N_j < V1.heap.size := by omega
    have g_l : w.heap.size ≤ N_l := by omega
    have g_j : w.heap.size ≤ N_j := by omega
    have d_l_j : N_l < N_j := by omega
    replace hlow : w.heap.size ≤ V1.heap.size := by omega
    clear hV1 hzV1 hN_l hN_j
    have l0 : V1.cell? ⟨N_l, 0, none⟩ = some (.int .i64 L.now) := cell_blk (i := 0) B_l.out rfl
    have l1 : V1.cell? ⟨N_l, 1, none⟩ = some (.int .i64 L.hd) := cell_blk (i := 1) B_l.out rfl
    have l2 : V1.cell? ⟨N_l, 2, none⟩ = some (.int .i64 L.pr) := cell_blk (i := 2) B_l.out rfl
    have l3 : V1.cell? ⟨N_l, 3, none⟩ = some (.int .i64 L.to) := cell_blk (i := 3) B_l.out rfl
    have l4 : V1.cell? ⟨N_l, 4, none⟩ = some (.slice L.A1 n1 L.c1) := cell_blk (i := 4) B_l.out rfl
    have l5 : V1.cell? ⟨N_l, 5, none⟩ = some (.slice L.A2 n2 L.c2) := cell_blk (i := 5) B_l.out rfl
    have l6 : V1.cell? ⟨N_l, 6, none⟩ = some (.slice L.A3 n3 L.c3) := cell_blk (i := 6) B_l.out rfl
    have l7 : V1.cell? ⟨N_l, 7, none⟩ = some (.slice L.A4 n4 L.c4) := cell_blk (i := 7) B_l.out rfl
    have l8 : V1.cell? ⟨N_l, 8, none⟩ = some (.slice L.A5 n5 L.c5) := cell_blk (i := 8) B_l.out rfl
    have j0 : V1.cell? ⟨N_j, 0, none⟩ = some (.int .i64 j.id) := cell_blk (i := 0) B_j.out rfl
    have j1 : V1.cell? ⟨N_j, 1, none⟩ = some (.int .i64 j.q) := cell_blk (i := 1) B_j.out rfl
    have j2 : V1.cell? ⟨N_j, 2, none⟩ = some (.int .i64 j.p) := cell_blk (i := 2) B_j.out rfl
    have j3 : V1.cell? ⟨N_j, 3, none⟩ = some (.int .i64 j.r) := cell_blk (i := 3) B_j.out rfl
    have j4 : V1.cell? ⟨N_j, 4, none⟩ = some (.int .i64 j.g) := cell_blk (i := 4) B_j.out rfl
    have j5 : V1.cell? ⟨N_j, 5, none⟩ = some (.int .i64 j.c) := cell_blk (i := 5) B_j.out rfl
    have j6 : V1.cell? ⟨N_j, 6, none⟩ = some (.int .i64 j.mn) := cell_blk (i := 6) B_j.out rfl
    have j7 : V1.cell? ⟨N_j, 7, none⟩ = some (.int .i64 j.mx) := cell_blk (i := 7) B_j.out rfl
    go_wp2_with fail
    refine (hL.out V1 HBel.out).mono ?_
    rintro e U2 ⟨hf, hb9⟩
    clear l0 l1 l2 l3 l4 l5 l6 l7 l8 j0 j1 j2 j3 j4 j5 j6 j7
    have hs9 := hb9.size
    replace HBel := Lib.hid (HBel.out.trans (hb9.mono hlow))
    replace B_l : Hid (U2.heap[N_l]? = some (.cells #[.int .i64 L.now, .int .i64 L.hd, .int .i64 L.pr, .int .i64 L.to, .slice L.A1 n1 L.c1, .slice L.A2 n2 L.c2, .slice L.A3 n3 L.c3, .slice L.A4 n4 L.c4, .slice L.A5 n5 L.c5] 28 (0, 0))) := Lib.hid ((hb9.block _ l_l).trans B_l.out)
    replace B_j : Hid (U2.heap[N_j]? = some (.cells #[.int .i64 j.id, .int .i64 j.q, .int .i64 j.p, .int .i64 j.r, .int .i64 j.g, .int .i64 j.c, .int .i64 j.mn, .int .i64 j.mx] 32 (0, 0))) := Lib.hid ((hb9.block _ l_j).trans B_j.out)
    replace l_l : N_l < U2.heap.size := by omega
    replace l_j : N_j < U2.heap.size := by omega
    replace hlow : w.heap.size ≤ U2.heap.size := by omega
    clear hb9 hs9
    rcases hf with ⟨_, rfl⟩ | ⟨h0, _⟩
    · go_wp2
      go_ret2
      exact ⟨⟨_, _, _, 1, 0, rfl, .inl ⟨HO.out, rfl⟩, (fun e => by cases e), fun _ => ⟨rfl, rfl, rfl⟩⟩, by rw [HB0.out]; exact HBel.out.alloc hlow _⟩
    · rw [HO.out] at h0; cases h0
  · have HO := Lib.hid hok
    have hok2 := hok
    unfold Shp.ok Jb.S at hok2
    simp at hok2
    obtain ⟨x, hx⟩ : ∃ x : Nat, j.mx = x := ⟨j.mx.toNat, by omega⟩
    obtain ⟨y, hy⟩ : ∃ y : Nat, j.mn = y := ⟨j.mn.toNat, by omega⟩
    have hlo : 1 ≤ y := by omega
    have hlh : y ≤ x := by omega
    have hhi : x ≤ 16 := by omega
    have HXY := Lib.hid (And.intro hx hy)
    rw [hx, hy] at hL ⊢
    clear hok hok2 hx hy hn1 hn2 hn3 hn4 hn5 h hW hj hn
    obtain ⟨B0, hB0⟩ : ∃ B, B = w.heap.size := ⟨_, rfl⟩
    rw [← hB0]
    have HB0 := Lib.hid hB0
    clear hB0
    have HBel := Lib.hid (Below.refl w.heap.size w)
    have hlow : w.heap.size ≤ w.heap.size := Nat.le_refl _
    go_enter Tryd.func7, Tryd.ntmps7
    go_wp2_with fail
    obtain ⟨V1, hV1⟩ : ∃ W, W = (w.alloc (.cells #[.int .i64 L.now, .int .i64 L.hd, .int .i64 L.pr, .int .i64 L.to, .slice L.A1 n1 L.c1, .slice L.A2 n2 L.c2, .slice L.A3 n3 L.c3, .slice L.A4 n4 L.c4, .slice L.A5 n5 L.c5] 28)).alloc (.cells #[.int .i64 j.id, .int .i64 j.q, .int .i64 j.p, .int .i64 j.r, .int .i64 j.g, .int .i64 j.c, .int .i64 (y : Nat), .int .i64 (x : Nat)] 32) := ⟨_, rfl⟩
    rw [← hV1]
    have hzV1 : V1.heap.size = w.heap.size + 1 + 1 := by rw [hV1]; simp
    replace HBel : Hid (Below w.heap.size w V1) := Lib.hid (by rw [hV1]; exact ((HBel.out.alloc (hlow) _).alloc (by simp <;> omega) _))
    have B_l : Hid (V1.heap[w.heap.size]? = some (.cells #[.int .i64 L.now, .int .i64 L.hd, .int .i64 L.pr, .int .i64 L.to, .slice L.A1 n1 L.c1, .slice L.A2 n2 L.c2, .slice L.A3 n3 L.c3, .slice L.A4 n4 L.c4, .slice L.A5 n5 L.c5] 28 (0, 0))) := Lib.hid (by
      have h9 := heap_alloc_new (w) (.cells #[.int .i64 L.now, .int .i64 L.hd, .int .i64 L.pr, .int .i64 L.to, .slice L.A1 n1 L.c1, .slice L.A2 n2 L.c2, .slice L.A3 n3 L.c3, .slice L.A4 n4 L.c4, .slice L.A5 n5 L.c5] 28)
      rw [hV1]; exact ((Below.heap_alloc _ _ _ (by simp <;> omega)).trans h9))
    have B_j : Hid (V1.heap[w.heap.size + 1]? = some (.cells #[.int .i64 j.id, .int .i64 j.q, .int .i64 j.p, .int .i64 j.r, .int .i64 j.g, .int .i64 j.c, .int .i64 (y : Nat), .int .i64 (x : Nat)] 32 (0, 0))) := Lib.hid (by
      have h9 := heap_alloc_new (w.alloc (.cells #[.int .i64 L.now, .int .i64 L.hd, .int .i64 L.pr, .int .i64 L.to, .slice L.A1 n1 L.c1, .slice L.A2 n2 L.c2, .slice L.A3 n3 L.c3, .slice L.A4 n4 L.c4, .slice L.A5 n5 L.c5] 28)) (.cells #[.int .i64 j.id, .int .i64 j.q, .int .i64 j.p, .int .i64 j.r, .int .i64 j.g, .int .i64 j.c, .int .i64 (y : Nat), .int .i64 (x : Nat)] 32)
      rw [World.size_alloc] at h9
      rw [hV1]; exact h9)
    obtain ⟨N_l, hN_l⟩ : ∃ N, N = w.heap.size := ⟨_, rfl⟩
    obtain ⟨N_j, hN_j⟩ : ∃ N, N = w.heap.size + 1 := ⟨_, rfl⟩
    (try rw [← hN_j])
    rw [← hN_j] at B_j
    (try rw [← hN_l])
    rw [← hN_l] at B_l
    have l_l : N_l < V1.heap.size := by omega
    have l_j : N_j < V1.heap.size := by omega
    have g_l : w.heap.size ≤ N_l := by omega
    have g_j : w.heap.size ≤ N_j := by omega
    have d_l_j : N_l < N_j := by omega
    replace hlow : w.heap.size ≤ V1.heap.size := by omega
    clear hV1 hzV1 hN_l hN_j
    have l0 : V1.cell? ⟨N_l, 0, none⟩ = some (.int .i64 L.now) := cell_blk (i := 0) B_l.out rfl
    have l1 : V1.cell? ⟨N_l, 1, none⟩ = some (.int .i64 L.hd) := cell_blk (i := 1) B_l.out rfl
    have l2 : V1.cell? ⟨N_l, 2, none⟩ = some (.int .i64 L.pr) := cell_blk (i := 2) B_l.out rfl
    have l3 : V1.cell? ⟨N_l, 3, none⟩ = some (.int .i64 L.to) := cell_blk (i := 3) B_l.out rfl
    have l4 : V1.cell? ⟨N_l, 4, none⟩ = some (.slice L.A1 n1 L.c1) := cell_blk (i := 4) B_l.out rfl
    have l5 : V1.cell? ⟨N_l, 5, none⟩ = some (.slice L.A2 n2 L.c2) := cell_blk (i := 5) B_l.out rfl
    have l6 : V1.cell? ⟨N_l, 6, none⟩ = some (.slice L.A3 n3 L.c3) := cell_blk (i := 6) B_l.out rfl
    have l7 : V1.cell? ⟨N_l, 7, none⟩ = some (.slice L.A4 n4 L.c4) := cell_blk (i := 7) B_l.out rfl
    have l8 : V1.cell? ⟨N_l, 8, none⟩ = some (.slice L.A5 n5 L.c5) := cell_blk (i := 8) B_l.out rfl
    have j0 : V1.cell? ⟨N_j, 0, none⟩ = some (.int .i64 j.id) := cell_blk (i := 0) B_j.out rfl
    have j1 : V1.cell? ⟨N_j, 1, none⟩ = some (.int .i64 j.q) := cell_blk (i := 1) B_j.out rfl
    have j2 : V1.cell? ⟨N_j, 2, none⟩ = some (.int .i64 j.p) := cell_blk (i := 2) B_j.out rfl
    have j3 : V1.cell? ⟨N_j, 3, none⟩ = some (.int .i64 j.r) := cell_blk (i := 3) B_j.out rfl
    have j4 : V1.cell? ⟨N_j, 4, none⟩ = some (.int .i64 j.g) := cell_blk (i := 4) B_j.out rfl
    have j5 : V1.cell? ⟨N_j, 5, none⟩ = some (.int .i64 j.c) := cell_blk (i := 5) B_j.out rfl
    have j6 : V1.cell? ⟨N_j, 6, none⟩ = some (.int .i64 (y : Nat)) := cell_blk (i := 6) B_j.out rfl
    have j7 : V1.cell? ⟨N_j, 7, none⟩ = some (.int .i64 (x : Nat)) := cell_blk (i := 7) B_j.out rfl
    go_wp2_with fail
    refine (hL.out V1 HBel.out).mono ?_
    rintro e U2 ⟨hf, hb9⟩
    clear l0 l1 l2 l3 l4 l5 l6 l7 l8 j0 j1 j2 j3 j4 j5 j6 j7
    have hs9 := hb9.size
    replace HBel := Lib.hid (HBel.out.trans (hb9.mono hlow))
    replace B_l : Hid (U2.heap[N_l]? = some (.cells #[.int .i64 L.now, .int .i64 L.hd, .int .i64 L.pr, .int .i64 L.to, .slice L.A1 n1 L.c1, .slice L.A2 n2 L.c2, .slice L.A3 n3 L.c3, .slice L.A4 n4 L.c4, .slice L.A5 n5 L.c5] 28 (0, 0))) := Lib.hid ((hb9.block _ l_l).trans B_l.out)
    replace B_j : Hid (U2.heap[N_j]? = some (.cells #[.int .i64 j.id, .int .i64 j.q, .int .i64 j.p, .int .i64 j.r, .int .i64 j.g, .int .i64 j.c, .int .i64 (y : Nat), .int .i64 (x : Nat)] 32 (0, 0))) := Lib.hid ((hb9.block _ l_j).trans B_j.out)
    replace l_l : N_l < U2.heap.size := by omega
    replace l_j : N_j < U2.heap.size := by omega
    replace hlow : w.heap.size ≤ U2.heap.size := by omega
    clear hb9 hs9
    rcases hf with ⟨h0, _⟩ | ⟨_, ⟨hq, rfl⟩ | ⟨U, hq, rfl⟩⟩
    · rw [HO.out] at h0; cases h0
    · have HQ := Lib.hid hq
      clear hq
      go_wp2
      go_ret2
      exact ⟨⟨_, _, _, 3, 0, rfl, .inr ⟨HO.out, .inl ⟨HQ.out, rfl⟩⟩, (fun e => by cases e), fun _ => ⟨rfl, rfl, rfl⟩⟩, by rw [HB0.out]; exact HBel.out.alloc hlow _⟩
    · have HQ := Lib.hid hq
      clear hq
      have l0 : U2.cell? ⟨N_l, 0, none⟩ = some (.int .i64 L.now) := cell_blk (i := 0) B_l.out rfl
      have l1 : U2.cell? ⟨N_l, 1, none⟩ = some (.int .i64 L.hd) := cell_blk (i := 1) B_l.out rfl
      have l2 : U2.cell? ⟨N_l, 2, none⟩ = some (.int .i64 L.pr) := cell_blk (i := 2) B_l.out rfl
      have l3 : U2.cell? ⟨N_l, 3, none⟩ = some (.int .i64 L.to) := cell_blk (i := 3) B_l.out rfl
      have l4 : U2.cell? ⟨N_l, 4, none⟩ = some (.slice L.A1 n1 L.c1) := cell_blk (i := 4) B_l.out rfl
      have l5 : U2.cell? ⟨N_l, 5, none⟩ = some (.slice L.A2 n2 L.c2) := cell_blk (i := 5) B_l.out rfl
      have l6 : U2.cell? ⟨N_l, 6, none⟩ = some (.slice L.A3 n3 L.c3) := cell_blk (i := 6) B_l.out rfl
      have l7 : U2.cell? ⟨N_l, 7, none⟩ = some (.slice L.A4 n4 L.c4) := cell_blk (i := 7) B_l.out rfl
      have l8 : U2.cell? ⟨N_l, 8, none⟩ = some (.slice L.A5 n5 L.c5) := cell_blk (i := 8) B_l.out rfl
      have l_l_0 : N_l < U2.heap.size + 1 := by omega
      have j0 : U2.cell? ⟨N_j, 0, none⟩ = some (.int .i64 j.id) := cell_blk (i := 0) B_j.out rfl
      have j1 : U2.cell? ⟨N_j, 1, none⟩ = some (.int .i64 j.q) := cell_blk (i := 1) B_j.out rfl
      have j2 : U2.cell? ⟨N_j, 2, none⟩ = some (.int .i64 j.p) := cell_blk (i := 2) B_j.out rfl
      have j3 : U2.cell? ⟨N_j, 3, none⟩ = some (.int .i64 j.r) := cell_blk (i := 3) B_j.out rfl
      have j4 : U2.cell? ⟨N_j, 4, none⟩ = some (.int .i64 j.g) := cell_blk (i := 4) B_j.out rfl
      have j5 : U2.cell? ⟨N_j, 5, none⟩ = some (.int .i64 j.c) := cell_blk (i := 5) B_j.out rfl
      have j6 : U2.cell? ⟨N_j, 6, none⟩ = some (.int .i64 (y : Nat)) := cell_blk (i := 6) B_j.out rfl
      have j7 : U2.cell? ⟨N_j, 7, none⟩ = some (.int .i64 (x : Nat)) := cell_blk (i := 7) B_j.out rfl
      have l_j_0 : N_j < U2.heap.size + 1 := by omega
      go_wp2_with fail
      clear l0 l1 l2 l3 l4 l5 l6 l7 l8 l_l_0 j0 j1 j2 j3 j4 j5 j6 j7 l_j_0
      obtain ⟨V3, hV3⟩ : ∃ W, W = U2.alloc (.cells #[.int .i64 U.g, .int .i64 U.c] 40) := ⟨_, rfl⟩
      rw [← hV3]
      have hzV3 : V3.heap.size = U2.heap.size + 1 := by rw [hV3]; simp
      replace HBel : Hid (Below w.heap.size w V3) := Lib.hid (by rw [hV3]; exact (HBel.out.alloc (hlow) _))
      replace B_l : Hid (V3.heap[N_l]? = some (.cells #[.int .i64 L.now, .int .i64 L.hd, .int .i64 L.pr, .int .i64 L.to, .slice L.A1 n1 L.c1, .slice L.A2 n2 L.c2, .slice L.A3 n3 L.c3, .slice L.A4 n4 L.c4, .slice L.A5 n5 L.c5] 28 (0, 0))) := Lib.hid (by rw [hV3]; exact ((Below.heap_alloc _ _ _ (by first | omega | (simp <;> omega))).trans B_l.out))
      replace B_j : Hid (V3.heap[N_j]? = some (.cells #[.int .i64 j.id, .int .i64 j.q, .int .i64 j.p, .int .i64 j.r, .int .i64 j.g, .int .i64 j.c, .int .i64 (y : Nat), .int .i64 (x : Nat)] 32 (0, 0))) := Lib.hid (by rw [hV3]; exact ((Below.heap_alloc _ _ _ (by first | omega | (simp <;> omega))).trans B_j.out))
      have B_u : Hid (V3.heap[U2.heap.size]? = some (.cells #[.int .i64 U.g, .int .i64 U.c] 40 (0, 0))) := Lib.hid (by
        have h9 := heap_alloc_new (U2) (.cells #[.int .i64 U.g, .int .i64 U.c] 40)
        rw [hV3]; exact h9)
      obtain ⟨N_u, hN_u⟩ : ∃ N, N = U2.heap.size := ⟨_, rfl⟩
      (try rw [← hN_u])
      rw [← hN_u] at B_u
      have d_l_u : N_l < N_u := by omega
      have d_j_u : N_j < N_u := by omega
      replace l_l : N_l < V3.heap.size := by omega
      replace l_j : N_j < V3.heap.size := by omega
      have l_u : N_u < V3.heap.size := by omega
      have g_u : w.heap.size ≤ N_u := by omega
      replace hlow : w.heap.size ≤ V3.heap.size := by omega
      clear hV3 hzV3 hN_u
      have HB9 := Lib.hid (show Below V3.heap.size V3 V3 from Below.refl _ _)
      refine (mostof_any 16 #[.pointer (some ⟨N_l, 0, none⟩), .pointer (some ⟨N_u, 0, none⟩), .pointer (some ⟨N_j, 0, none⟩)] (PlR j.S L.lv U.g U.c) (placeF j.S L.lv) y x hlo hlh (by omega) V3 (enters_of Tryd.func16 (by kernel_rfl) rfl) (fun n W h1 h2 hk => mostcl_any N_l N_u N_j n1 L.A1 L.c1 L.lv U.g U.c j.S n W (HL1.out.1.keep (HBel.out.trans (hk.mono hlow)) (HBel.out.trans (hk.mono hlow)).size) HL1.out.2.1 HL1.out.2.2.1 HL1.out.2.2.2.2 HL1.out.2.2.2.1 (HT.out.below (HBel.out.trans (hk.mono hlow)) HT.out.size) HO.out (by omega) (by omega) ((hk.cell (p := ⟨N_l, 4, none⟩) l_l).trans (cell_blk (i := 4) B_l.out rfl)) ((hk.cell (p := ⟨N_u, 0, none⟩) l_u).trans (cell_blk (i := 0) B_u.out rfl)) ((hk.cell (p := ⟨N_u, 1, none⟩) l_u).trans (cell_blk (i := 1) B_u.out rfl)) ((hk.cell (p := ⟨N_j, 4, none⟩) l_j).trans (cell_blk (i := 4) B_j.out rfl)) ((hk.cell (p := ⟨N_j, 5, none⟩) l_j).trans (cell_blk (i := 5) B_j.out rfl)) ((hk.cell (p := ⟨N_j, 6, none⟩) l_j).trans ((cell_blk (i := 6) B_j.out rfl).trans (by simp only [Jb.S]; rw [HXY.out.2]; rfl))) ((hk.cell (p := ⟨N_j, 7, none⟩) l_j).trans ((cell_blk (i := 7) B_j.out rfl).trans (by simp only [Jb.S]; rw [HXY.out.1]; rfl))))).mono ?_
      rintro e U4 ⟨⟨A, k, c, r, n, rfl, hT9, hS9, hN9⟩, hb9⟩
      have hs9 := hb9.size
      have HS := Lib.hid (And.intro hT9 (And.intro hS9 hN9))
      clear hT9 hS9 hN9
      replace HBel := Lib.hid (HBel.out.trans (hb9.mono hlow))
      replace B_l : Hid (U4.heap[N_l]? = some (.cells #[.int .i64 L.now, .int .i64 L.hd, .int .i64 L.pr, .int .i64 L.to, .slice L.A1 n1 L.c1, .slice L.A2 n2 L.c2, .slice L.A3 n3 L.c3, .slice L.A4 n4 L.c4, .slice L.A5 n5 L.c5] 28 (0, 0))) := Lib.hid ((hb9.block _ l_l).trans B_l.out)
      replace B_j : Hid (U4.heap[N_j]? = some (.cells #[.int .i64 j.id, .int .i64 j.q, .int .i64 j.p, .int .i64 j.r, .int .i64 j.g, .int .i64 j.c, .int .i64 (y : Nat), .int .i64 (x : Nat)] 32 (0, 0))) := Lib.hid ((hb9.block _ l_j).trans B_j.out)
      replace B_u : Hid (U4.heap[N_u]? = some (.cells #[.int .i64 U.g, .int .i64 U.c] 40 (0, 0))) := Lib.hid ((hb9.block _ l_u).trans B_u.out)
      replace l_l : N_l < U4.heap.size := by omega
      replace l_j : N_j < U4.heap.size := by omega
      replace l_u : N_u < U4.heap.size := by omega
      replace hlow : w.heap.size ≤ U4.heap.size := by omega
      clear hb9 hs9
      go_wp2
      go_ret2
      refine ⟨⟨A, k, c, r, n, rfl, .inr ⟨HO.out, .inr ⟨U, HQ.out, ?_⟩⟩, fun e => ?_, HS.out.2.2⟩, by rw [HB0.out]; exact HBel.out⟩
      · have e1 : j.S.mn.toNat = y := by show j.mn.toNat = y; rw [HXY.out.2]; rfl
        have e2 : j.S.mx.toNat = x := by show j.mx.toNat = x; rw [HXY.out.1]; rfl
        unfold MostR
        rw [e1, e2]
        exact HS.out.1
      · obtain ⟨a1, a2, a3, a4⟩ := HS.out.2.1 e
        have hn9 : n ≤ roomF j.S L.lv := by
          rcases HS.out.1 with ⟨_, _, _, h9, _⟩ | ⟨h9, _⟩
          · exact (plE_zero.1 h9.symm).1
          · exact absurd e h9
        exact ⟨by rw [a1, placeF_len hn9], a1, a2, a3, a4⟩
end Go.Proofs.YtppapmacngdefaaDoor
