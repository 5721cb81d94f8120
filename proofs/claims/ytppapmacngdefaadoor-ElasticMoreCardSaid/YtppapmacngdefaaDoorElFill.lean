/- Fill and Grow of package elastic. -/
import Derived.Test.YtppapmacngdefaaDoorElMake
import Derived.Test.YtppapmacngdefaaDoorElLet
set_option linter.unusedVariables false
set_option maxRecDepth 100000
namespace Go.Proofs.YtppapmacngdefaaDoor
open Go.RowKit
open PR
/-- What letting so many members tells. -/
abbrev FlR (L : Lk) (j : Jb) (un : Int) : Nat → Int → Prop := fun m r => LetR L j.id j.q un (placeF j.S L.lv m) r
set_option maxHeartbeats 16000000 in
theorem fillcl_any (a b d : Nat) (n1 n2 n3 n4 n5 : Nat) (L : Lk) (j : Jb) (un : Int) (p : Nat) (w : World) (hn1 : n1 = L.lv.length) (hn2 : n2 = L.lf.length) (hn3 : n3 = L.le.length) (hn4 : n4 = L.lw.length) (hn5 : n5 = L.lr.length) (h : LkIn w w.heap.size L) (hW : LkW L) (hF : LkF L) (hj : JbW j) (hu : (Lit.int .i64 un).wf = true) (hT : Tab w)
    (hok : j.S.ok = true) (h1 : 1 ≤ p) (h16 : p ≤ 16) (hr : p ≤ roomF j.S L.lv)
    (bl : w.heap[a]? = some (.cells #[.int .i64 L.now, .int .i64 L.hd, .int .i64 L.pr, .int .i64 L.to, .slice L.A1 n1 L.c1, .slice L.A2 n2 L.c2, .slice L.A3 n3 L.c3, .slice L.A4 n4 L.c4, .slice L.A5 n5 L.c5] 28 (0, 0))) (bj : w.heap[b]? = some (.cells #[.int .i64 j.id, .int .i64 j.q, .int .i64 j.p, .int .i64 j.r, .int .i64 j.g, .int .i64 j.c, .int .i64 j.mn, .int .i64 j.mx] 32 (0, 0))) (bu : w.heap[d]? = some (.cells #[.int .i64 un] 3 (0, 0))) :
    Calls Tryd.prog 22 #[.int .i64 (p : Nat), .pointer (some ⟨a, 0, none⟩), .pointer (some ⟨b, 0, none⟩), .pointer (some ⟨d, 0, none⟩)] w fun e w' => TryR (FlR L j un) (placeF j.S L.lv) p w' e ∧ Below w.heap.size w w' := by
  have hlen : (placeF j.S L.lv p).length = p := placeF_len hr
  have hsok : ∀ s ∈ placeF j.S L.lv p, FeOk s := fun s hs => (placeL_ok hj.S hW.v _ _ s hs).1
  have hP := Lib.hid (show Calls Tryd.prog 23 #[.slice L.A1 n1 L.c1, .agg #[.int .i64 j.g, .int .i64 j.c, .int .i64 j.mn, .int .i64 j.mx], .int .i64 (p : Nat)] w (fun e w' => ∃ b off cap', e = .returned (.tuple #[.slice (some ⟨b, off, none⟩) p cap', .int .i64 0]) ∧ p ≤ cap' ∧ cap' ≤ maxLen ∧ Below w.heap.size w w' ∧ Hid (Fes w' w'.heap.size (some ⟨b, off, none⟩) (placeF j.S L.lv p))) from by
    rw [hn1]
    exact place_own L.A1 L.c1 w.heap.size L.lv j.S p w h.v (Nat.le_refl _) (by have := hF.n; omega) hj.S hW.v hT hok h1 h16 hr)
  have hL := Lib.hid (fun (A : Option Addr) (c : Nat) W (hk : Below w.heap.size w W) (hs : Fes W W.heap.size A (placeF j.S L.lv p)) (hc1 : p ≤ c) (hc2 : c ≤ maxLen) => show Calls Tryd.prog 24 #[.agg #[.int .i64 L.now, .int .i64 L.hd, .int .i64 L.pr, .int .i64 L.to, .slice L.A1 n1 L.c1, .slice L.A2 n2 L.c2, .slice L.A3 n3 L.c3, .slice L.A4 n4 L.c4, .slice L.A5 n5 L.c5], .agg #[.int .i64 j.id, .int .i64 j.q, .int .i64 j.p, .int .i64 j.r, .int .i64 j.g, .int .i64 j.c, .int .i64 j.mn, .int .i64 j.mx], .int .i64 un, .slice A p c] W (fun e w' => ∃ r, e = .returned (.int .i64 r) ∧ LetR L j.id j.q un (placeF j.S L.lv p) r ∧ Below W.heap.size W w') from by
    have h9 := let_any L j un A c (placeF j.S L.lv p) W (h.keep hk hk.size) hW hF hj hu hs hsok (by rw [hlen]; exact hc1) hc2 (by rw [hlen]; omega) (hT.below hk hT.size)
    unfold lkV lkA jbV jbA at h9
    rw [hlen, ← hn1, ← hn2, ← hn3, ← hn4, ← hn5] at h9
    exact h9)
  have B_l := Lib.hid bl
  have B_j := Lib.hid bj
  have B_u := Lib.hid bu
  have l_l : a < w.heap.size := blk_lt bl
  have l_j : b < w.heap.size := blk_lt bj
  have l_u : d < w.heap.size := blk_lt bu
  have HLN := Lib.hid hlen
  clear bl bj bu hn1 hn2 hn3 hn4 hn5 h hW hF hj hu hT hok h1 h16 hr hlen hsok
  obtain ⟨B0, hB0⟩ : ∃ B, B = w.heap.size := ⟨_, rfl⟩
  rw [← hB0]
  have HB0 := Lib.hid hB0
  clear hB0
  have HBel := Lib.hid (Below.refl w.heap.size w)
  have hlow : w.heap.size ≤ w.heap.size := Nat.le_refl _
  go_enter Tryd.func22, Tryd.ntmps22
  have l0 : w.cell? ⟨a, 0, none⟩ = some (.int .i64 L.now) := cell_blk (i := 0) B_l.out rfl
  have l1 : w.cell? ⟨a, 1, none⟩ = some (.int .i64 L.hd) := cell_blk (i := 1) B_l.out rfl
  have l2 : w.cell? ⟨a, 2, none⟩ = some (.int .i64 L.pr) := cell_blk (i := 2) B_l.out rfl
  have l3 : w.cell? ⟨a, 3, none⟩ = some (.int .i64 L.to) := cell_blk (i := 3) B_l.out rfl
  have l4 : w.cell? ⟨a, 4, none⟩ = some (.slice L.A1 n1 L.c1) := cell_blk (i := 4) B_l.out rfl
  have l5 : w.cell? ⟨a, 5, none⟩ = some (.slice L.A2 n2 L.c2) := cell_blk (i := 5) B_l.out rfl
  have l6 : w.cell? ⟨a, 6, none⟩ = some (.slice L.A3 n3 L.c3) := cell_blk (i := 6) B_l.out rfl
  have l7 : w.cell? ⟨a, 7, none⟩ = some (.slice L.A4 n4 L.c4) := cell_blk (i := 7) B_l.out rfl
  have l8 : w.cell? ⟨a, 8, none⟩ = some (.slice L.A5 n5 L.c5) := cell_blk (i := 8) B_l.out rfl
  have j0 : w.cell? ⟨b, 0, none⟩ = some (.int .i64 j.id) := cell_blk (i := 0) B_j.out rfl
  have j1 : w.cell? ⟨b, 1, none⟩ = some (.int .i64 j.q) := cell_blk (i := 1) B_j.out rfl
  have j2 : w.cell? ⟨b, 2, none⟩ = some (.int .i64 j.p) := cell_blk (i := 2) B_j.out rfl
  have j3 : w.cell? ⟨b, 3, none⟩ = some (.int .i64 j.r) := cell_blk (i := 3) B_j.out rfl
  have j4 : w.cell? ⟨b, 4, none⟩ = some (.int .i64 j.g) := cell_blk (i := 4) B_j.out rfl
  have j5 : w.cell? ⟨b, 5, none⟩ = some (.int .i64 j.c) := cell_blk (i := 5) B_j.out rfl
  have j6 : w.cell? ⟨b, 6, none⟩ = some (.int .i64 j.mn) := cell_blk (i := 6) B_j.out rfl
  have j7 : w.cell? ⟨b, 7, none⟩ = some (.int .i64 j.mx) := cell_blk (i := 7) B_j.out rfl
  go_wp2_with fail
  refine (hP.out).mono ?_
  rintro e U1 ⟨g, off, c, rfl, hc1, hc2, hb9, hf⟩
  clear l0 l1 l2 l3 l4 l5 l6 l7 l8 j0 j1 j2 j3 j4 j5 j6 j7
  have hs9 := hb9.size
  have HC := Lib.hid (And.intro hc1 (And.intro hc2 hf.out))
  clear hc1 hc2 hf
  replace HBel := Lib.hid (HBel.out.trans (hb9.mono hlow))
  replace B_l : Hid (U1.heap[a]? = some (.cells #[.int .i64 L.now, .int .i64 L.hd, .int .i64 L.pr, .int .i64 L.to, .slice L.A1 n1 L.c1, .slice L.A2 n2 L.c2, .slice L.A3 n3 L.c3, .slice L.A4 n4 L.c4, .slice L.A5 n5 L.c5] 28 (0, 0))) := Lib.hid ((hb9.block _ l_l).trans B_l.out)
  replace B_j : Hid (U1.heap[b]? = some (.cells #[.int .i64 j.id, .int .i64 j.q, .int .i64 j.p, .int .i64 j.r, .int .i64 j.g, .int .i64 j.c, .int .i64 j.mn, .int .i64 j.mx] 32 (0, 0))) := Lib.hid ((hb9.block _ l_j).trans B_j.out)
  replace B_u : Hid (U1.heap[d]? = some (.cells #[.int .i64 un] 3 (0, 0))) := Lib.hid ((hb9.block _ l_u).trans B_u.out)
  replace l_l : a < U1.heap.size := by omega
  replace l_j : b < U1.heap.size := by omega
  replace l_u : d < U1.heap.size := by omega
  replace hlow : w.heap.size ≤ U1.heap.size := by omega
  clear hb9 hs9
  have l0 : U1.cell? ⟨a, 0, none⟩ = some (.int .i64 L.now) := cell_blk (i := 0) B_l.out rfl
  have l1 : U1.cell? ⟨a, 1, none⟩ = some (.int .i64 L.hd) := cell_blk (i := 1) B_l.out rfl
  have l2 : U1.cell? ⟨a, 2, none⟩ = some (.int .i64 L.pr) := cell_blk (i := 2) B_l.out rfl
  have l3 : U1.cell? ⟨a, 3, none⟩ = some (.int .i64 L.to) := cell_blk (i := 3) B_l.out rfl
  have l4 : U1.cell? ⟨a, 4, none⟩ = some (.slice L.A1 n1 L.c1) := cell_blk (i := 4) B_l.out rfl
  have l5 : U1.cell? ⟨a, 5, none⟩ = some (.slice L.A2 n2 L.c2) := cell_blk (i := 5) B_l.out rfl
  have l6 : U1.cell? ⟨a, 6, none⟩ = some (.slice L.A3 n3 L.c3) := cell_blk (i := 6) B_l.out rfl
  have l7 : U1.cell? ⟨a, 7, none⟩ = some (.slice L.A4 n4 L.c4) := cell_blk (i := 7) B_l.out rfl
  have l8 : U1.cell? ⟨a, 8, none⟩ = some (.slice L.A5 n5 L.c5) := cell_blk (i := 8) B_l.out rfl
  have j0 : U1.cell? ⟨b, 0, none⟩ = some (.int .i64 j.id) := cell_blk (i := 0) B_j.out rfl
  have j1 : U1.cell? ⟨b, 1, none⟩ = some (.int .i64 j.q) := cell_blk (i := 1) B_j.out rfl
  have j2 : U1.cell? ⟨b, 2, none⟩ = some (.int .i64 j.p) := cell_blk (i := 2) B_j.out rfl
  have j3 : U1.cell? ⟨b, 3, none⟩ = some (.int .i64 j.r) := cell_blk (i := 3) B_j.out rfl
  have j4 : U1.cell? ⟨b, 4, none⟩ = some (.int .i64 j.g) := cell_blk (i := 4) B_j.out rfl
  have j5 : U1.cell? ⟨b, 5, none⟩ = some (.int .i64 j.c) := cell_blk (i := 5) B_j.out rfl
  have j6 : U1.cell? ⟨b, 6, none⟩ = some (.int .i64 j.mn) := cell_blk (i := 6) B_j.out rfl
  have j7 : U1.cell? ⟨b, 7, none⟩ = some (.int .i64 j.mx) := cell_blk (i := 7) B_j.out rfl
  have u0 : U1.cell? ⟨d, 0, none⟩ = some (.int .i64 un) := cell_blk (i := 0) B_u.out rfl
  go_wp2_with fail
  refine (hL.out (some ⟨g, off, none⟩) c U1 HBel.out HC.out.2.2 HC.out.1 HC.out.2.1).mono ?_
  rintro e U2 ⟨r, rfl, hr9, hb9⟩
  clear l0 l1 l2 l3 l4 l5 l6 l7 l8 j0 j1 j2 j3 j4 j5 j6 j7 u0
  have hs9 := hb9.size
  have HR := Lib.hid (And.intro hr9 (HC.out.2.2.keep hb9 hb9.size))
  clear hr9
  replace HBel := Lib.hid (HBel.out.trans (hb9.mono hlow))
  replace B_l : Hid (U2.heap[a]? = some (.cells #[.int .i64 L.now, .int .i64 L.hd, .int .i64 L.pr, .int .i64 L.to, .slice L.A1 n1 L.c1, .slice L.A2 n2 L.c2, .slice L.A3 n3 L.c3, .slice L.A4 n4 L.c4, .slice L.A5 n5 L.c5] 28 (0, 0))) := Lib.hid ((hb9.block _ l_l).trans B_l.out)
  replace B_j : Hid (U2.heap[b]? = some (.cells #[.int .i64 j.id, .int .i64 j.q, .int .i64 j.p, .int .i64 j.r, .int .i64 j.g, .int .i64 j.c, .int .i64 j.mn, .int .i64 j.mx] 32 (0, 0))) := Lib.hid ((hb9.block _ l_j).trans B_j.out)
  replace B_u : Hid (U2.heap[d]? = some (.cells #[.int .i64 un] 3 (0, 0))) := Lib.hid ((hb9.block _ l_u).trans B_u.out)
  replace l_l : a < U2.heap.size := by omega
  replace l_j : b < U2.heap.size := by omega
  replace l_u : d < U2.heap.size := by omega
  replace hlow : w.heap.size ≤ U2.heap.size := by omega
  clear hb9 hs9
  go_wp2
  go_ret2
  exact ⟨⟨_, _, _, r, rfl, HR.out.1, fun _ => ⟨HLN.out.symm, HC.out.1, HC.out.2.1, HR.out.2⟩⟩, by rw [HB0.out]; exact HBel.out⟩
/-- What Fill tells: how many, or an error. -/
def FillE (L : Lk) (j : Jb) (un : Int) (n n' : Nat) (r : Int) : Prop := (∃ E, MostE L j n E ∧ E ≠ 0 ∧ r = E) ∨ (MostE L j n 0 ∧ FillR L j.id j.q un j.S n n' r)
def FillJ (L : Lk) (j : Jb) (un : Int) (w' : World) (e : Ending) : Prop :=
  ∃ A k c r n n', e = .returned (.tuple #[.slice A k c, .int .i64 r]) ∧ FillE L j un n n' r ∧ (r = 0 → n' ≤ n ∧ n ≤ 16 ∧ n' ≤ roomF j.S L.lv ∧ k = n' ∧ k = (placeF j.S L.lv n').length ∧ k ≤ c ∧ c ≤ maxLen ∧ Fes w' w'.heap.size A (placeF j.S L.lv n')) ∧ (r ≠ 0 → k = 0)
theorem most_bounds {L : Lk} {j : Jb} {n : Nat} (h : MostE L j n 0) : j.S.ok = true ∧ j.S.mn.toNat ≤ n ∧ n ≤ j.S.mx.toNat ∧ n ≤ roomF j.S L.lv ∧ ∃ U, leftL L j.q = some U ∧ MostR j.S L.lv U.g U.c n 0 := by
  rcases h with ⟨_, h⟩ | ⟨h0, ⟨_, h⟩ | ⟨U, hU, h⟩⟩
  · cases h
  · cases h
  · refine ⟨h0, ?_, ?_, ?_, U, hU, h⟩ <;> rcases h with ⟨_, h1, h2, h3, _⟩ | ⟨h9, _⟩
    · exact h1
    · exact absurd rfl h9
    · exact h2
    · exact absurd rfl h9
    · exact (plE_zero.1 h3.symm).1
    · exact absurd rfl h9
set_option maxHeartbeats 16000000 in
theorem fill_any (L : Lk) (j : Jb) (un : Int) (w : World) (h : LkIn w w.heap.size L) (hW : LkW L) (hF : LkF L) (hj : JbW j) (hu : (Lit.int .i64 un).wf = true) (hT : Tab w) :
    Calls Tryd.prog 11 #[lkV L, jbV j, .int .i64 un] w fun e w' => FillJ L j un w' e ∧ Below w.heap.size w w' := by
  obtain ⟨n1, hn1⟩ : ∃ n, n = L.lv.length := ⟨_, rfl⟩
  obtain ⟨n2, hn2⟩ : ∃ n, n = L.lf.length := ⟨_, rfl⟩
  obtain ⟨n3, hn3⟩ : ∃ n, n = L.le.length := ⟨_, rfl⟩
  obtain ⟨n4, hn4⟩ : ∃ n, n = L.lw.length := ⟨_, rfl⟩
  obtain ⟨n5, hn5⟩ : ∃ n, n = L.lr.length := ⟨_, rfl⟩
  have hM := Lib.hid (fun W (hk : Below w.heap.size w W) => show Calls Tryd.prog 7 #[.agg #[.int .i64 L.now, .int .i64 L.hd, .int .i64 L.pr, .int .i64 L.to, .slice L.A1 n1 L.c1, .slice L.A2 n2 L.c2, .slice L.A3 n3 L.c3, .slice L.A4 n4 L.c4, .slice L.A5 n5 L.c5], .agg #[.int .i64 j.id, .int .i64 j.q, .int .i64 j.p, .int .i64 j.r, .int .i64 j.g, .int .i64 j.c, .int .i64 j.mn, .int .i64 j.mx]] W (fun e w' => MostJ L j w' e ∧ Below W.heap.size W w') from by
    have h9 := most_any L j W (h.keep hk hk.size) hW hj (by have := hF.n; omega) (hT.below hk hT.size)
    unfold lkV lkA jbV jbA at h9
    rw [← hn1, ← hn2, ← hn3, ← hn4, ← hn5] at h9
    exact h9)
  have hCl := Lib.hid (fun (a b d p : Nat) W (hk : Below w.heap.size w W) (hok : j.S.ok = true) (h1 : 1 ≤ p) (h16 : p ≤ 16) (hr : p ≤ roomF j.S L.lv) (bl : W.heap[a]? = some (.cells #[.int .i64 L.now, .int .i64 L.hd, .int .i64 L.pr, .int .i64 L.to, .slice L.A1 n1 L.c1, .slice L.A2 n2 L.c2, .slice L.A3 n3 L.c3, .slice L.A4 n4 L.c4, .slice L.A5 n5 L.c5] 28 (0, 0))) (bj : W.heap[b]? = some (.cells #[.int .i64 j.id, .int .i64 j.q, .int .i64 j.p, .int .i64 j.r, .int .i64 j.g, .int .i64 j.c, .int .i64 j.mn, .int .i64 j.mx] 32 (0, 0))) (bu : W.heap[d]? = some (.cells #[.int .i64 un] 3 (0, 0))) =>
    fillcl_any a b d n1 n2 n3 n4 n5 L j un p W hn1 hn2 hn3 hn4 hn5 (h.keep hk hk.size) hW hF hj hu (hT.below hk hT.size) hok h1 h16 hr bl bj bu)
  unfold lkV lkA jbV jbA
  rw [← hn1, ← hn2, ← hn3, ← hn4, ← hn5]
  clear hn1 hn2 hn3 hn4 hn5 h hW hF hj hu hT
  obtain ⟨B0, hB0⟩ : ∃ B, B = w.heap.size := ⟨_, rfl⟩
  rw [← hB0]
  have HB0 := Lib.hid hB0
  clear hB0
  have HBel := Lib.hid (Below.refl w.heap.size w)
  have hlow : w.heap.size ≤ w.heap.size := Nat.le_refl _
  go_enter Tryd.func11, Tryd.ntmps11
  go_wp2_with fail
  obtain ⟨V1, hV1⟩ : ∃ W, W = ((w.alloc (.cells #[.int .i64 L.now, .int .i64 L.hd, .int .i64 L.pr, .int .i64 L.to, .slice L.A1 n1 L.c1, .slice L.A2 n2 L.c2, .slice L.A3 n3 L.c3, .slice L.A4 n4 L.c4, .slice L.A5 n5 L.c5] 28)).alloc (.cells #[.int .i64 j.id, .int .i64 j.q, .int .i64 j.p, .int .i64 j.r, .int .i64 j.g, .int .i64 j.c, .int .i64 j.mn, .int .i64 j.mx] 32)).alloc (.cells #[.int .i64 un] 3) := ⟨_, rfl⟩
  rw [← hV1]
  have hzV1 : V1.heap.size = w.heap.size + 1 + 1 + 1 := by rw [hV1]; simp
  replace HBel : Hid (Below w.heap.size w V1) := Lib.hid (by rw [hV1]; exact (((HBel.out.alloc (hlow) _).alloc (by simp <;> omega) _).alloc (by simp <;> omega) _))
  have B_l : Hid (V1.heap[w.heap.size]? = some (.cells #[.int .i64 L.now, .int .i64 L.hd, .int .i64 L.pr, .int .i64 L.to, .slice L.A1 n1 L.c1, .slice L.A2 n2 L.c2, .slice L.A3 n3 L.c3, .slice L.A4 n4 L.c4, .slice L.A5 n5 L.c5] 28 (0, 0))) := Lib.hid (by
    have h9 := heap_alloc_new (w) (.cells #[.int .i64 L.now, .int .i64 L.hd, .int .i64 L.pr, .int .i64 L.to, .slice L.A1 n1 L.c1, .slice L.A2 n2 L.c2, .slice L.A3 n3 L.c3, .slice L.A4 n4 L.c4, .slice L.A5 n5 L.c5] 28)
    rw [hV1]; exact ((Below.heap_alloc _ _ _ (by simp <;> omega)).trans ((Below.heap_alloc _ _ _ (by simp <;> omega)).trans h9)))
  have B_j : Hid (V1.heap[w.heap.size + 1]? = some (.cells #[.int .i64 j.id, .int .i64 j.q, .int .i64 j.p, .int .i64 j.r, .int .i64 j.g, .int .i64 j.c, .int .i64 j.mn, .int .i64 j.mx] 32 (0, 0))) := Lib.hid (by
    have h9 := heap_alloc_new (w.alloc (.cells #[.int .i64 L.now, .int .i64 L.hd, .int .i64 L.pr, .int .i64 L.to, .slice L.A1 n1 L.c1, .slice L.A2 n2 L.c2, .slice L.A3 n3 L.c3, .slice L.A4 n4 L.c4, .slice L.A5 n5 L.c5] 28)) (.cells #[.int .i64 j.id, .int .i64 j.q, .int .i64 j.p, .int .i64 j.r, .int .i64 j.g, .int .i64 j.c, .int .i64 j.mn, .int .i64 j.mx] 32)
    rw [World.size_alloc] at h9
    rw [hV1]; exact ((Below.heap_alloc _ _ _ (by simp <;> omega)).trans h9))
  have B_u : Hid (V1.heap[w.heap.size + 1 + 1]? = some (.cells #[.int .i64 un] 3 (0, 0))) := Lib.hid (by
    have h9 := heap_alloc_new ((w.alloc (.cells #[.int .i64 L.now, .int .i64 L.hd, .int .i64 L.pr, .int .i64 L.to, .slice L.A1 n1 L.c1, .slice L.A2 n2 L.c2, .slice L.A3 n3 L.c3, .slice L.A4 n4 L.c4, .slice L.A5 n5 L.c5] 28)).alloc (.cells #[.int .i64 j.id, .int .i64 j.q, .int .i64 j.p, .int .i64 j.r, .int .i64 j.g, .int .i64 j.c, .int .i64 j.mn, .int .i64 j.mx] 32)) (.cells #[.int .i64 un] 3)
    rw [World.size_alloc, World.size_alloc] at h9
    rw [hV1]; exact h9)
  obtain ⟨N_l, hN_l⟩ : ∃ N, N = w.heap.size := ⟨_, rfl⟩
  obtain ⟨N_j, hN_j⟩ : ∃ N, N = w.heap.size + 1 := ⟨_, rfl⟩
  obtain ⟨N_u, hN_u⟩ : ∃ N, N = w.heap.size + 1 + 1 := ⟨_, rfl⟩
  (try rw [← hN_u])
  rw [← hN_u] at B_u
  (try rw [← hN_j])
  rw [← hN_j] at B_j
  (try rw [← hN_l])
  rw [← hN_l] at B_l
  have l_l : N_l < V1.heap.size := by omega
  have l_j : N_j < V1.heap.size := by omega
  have l_u : N_u < V1.heap.size := by omega
  have g_l : w.heap.size ≤ N_l := by omega
  have g_j : w.heap.size ≤ N_j := by omega
  have g_u : w.heap.size ≤ N_u := by omega
  have d_l_j : N_l < N_j := by omega
  have d_j_u : N_j < N_u := by omega
  replace hlow : w.heap.size ≤ V1.heap.size := by omega
  clear hV1 hzV1 hN_l hN_j hN_u
  have l0 : V1.cell? ⟨N_l, 0, none⟩ = some (.int .i64 L.now) := cell_blk (i := 0) B_l.out rfl
  have l1 : V1.cell? ⟨N_l, 1, none⟩ = some (.int .i64 L.hd) := cell_blk (i := 1) B_l.out rfl
  have l2 : V1.cell? ⟨N_l, 2, none⟩ = some (.int .i64 L.pr) := cell_blk (i := 2) B_l.out rfl
  have l3 : V1.cell? ⟨N_l, 3, none⟩ = some (.int .i64 L.to) := cell_blk (i := 3) B_l.out rfl
  have l4 : V1.cell? ⟨N_l, 4, none⟩ = some (.slice L.A1 n1 L.c1) := cell_blk (i := 4) B_l.out rfl
  have l5 : V1.cell? ⟨N_l, 5, none⟩ = some (.slice L.A2 n2 L.c2) := cell_blk (i := 5) B_l.out rfl
  have l6 : V1.cell? ⟨N_l, 6, none⟩ = some (.slice L.A3 n3 L.c3) := cell_blk (i := 6) B_l.out rfl
  have l7 : V1.cell? ⟨N_l, 7, none⟩ = some (.slice L.A4 n4 L.c4) := cell_blk (i := 7) B_l.out rfl
  have l8 : V1.cell? ⟨N_l, 8, none⟩ = some (.slice L.A5 n5 L.c5) := cell_blk (i := 8) B_l.out rfl
  have j0 : V1.cell? ⟨N_j, 0, none⟩ = some (.int .i64 j.id) := cell_blk (i := 0) B_j.out rfl
  have j1 : V1.cell? ⟨N_j, 1, none⟩ = some (.int .i64 j.q) := cell_blk (i := 1) B_j.out rfl
  have j2 : V1.cell? ⟨N_j, 2, none⟩ = some (.int .i64 j.p) := cell_blk (i := 2) B_j.out rfl
  have j3 : V1.cell? ⟨N_j, 3, none⟩ = some (.int .i64 j.r) := cell_blk (i := 3) B_j.out rfl
  have j4 : V1.cell? ⟨N_j, 4, none⟩ = some (.int .i64 j.g) := cell_blk (i := 4) B_j.out rfl
  have j5 : V1.cell? ⟨N_j, 5, none⟩ = some (.int .i64 j.c) := cell_blk (i := 5) B_j.out rfl
  have j6 : V1.cell? ⟨N_j, 6, none⟩ = some (.int .i64 j.mn) := cell_blk (i := 6) B_j.out rfl
  have j7 : V1.cell? ⟨N_j, 7, none⟩ = some (.int .i64 j.mx) := cell_blk (i := 7) B_j.out rfl
  go_wp2_with fail
  refine (hM.out V1 HBel.out).mono ?_
  rintro e U2 ⟨⟨A, k, c, r, n, rfl, hE, hS, hN⟩, hb9⟩
  clear l0 l1 l2 l3 l4 l5 l6 l7 l8 j0 j1 j2 j3 j4 j5 j6 j7
  have hs9 := hb9.size
  have HE := Lib.hid (And.intro hE (And.intro hS hN))
  clear hE hS hN
  replace HBel := Lib.hid (HBel.out.trans (hb9.mono hlow))
  replace B_l : Hid (U2.heap[N_l]? = some (.cells #[.int .i64 L.now, .int .i64 L.hd, .int .i64 L.pr, .int .i64 L.to, .slice L.A1 n1 L.c1, .slice L.A2 n2 L.c2, .slice L.A3 n3 L.c3, .slice L.A4 n4 L.c4, .slice L.A5 n5 L.c5] 28 (0, 0))) := Lib.hid ((hb9.block _ l_l).trans B_l.out)
  replace B_j : Hid (U2.heap[N_j]? = some (.cells #[.int .i64 j.id, .int .i64 j.q, .int .i64 j.p, .int .i64 j.r, .int .i64 j.g, .int .i64 j.c, .int .i64 j.mn, .int .i64 j.mx] 32 (0, 0))) := Lib.hid ((hb9.block _ l_j).trans B_j.out)
  replace B_u : Hid (U2.heap[N_u]? = some (.cells #[.int .i64 un] 3 (0, 0))) := Lib.hid ((hb9.block _ l_u).trans B_u.out)
  replace l_l : N_l < U2.heap.size := by omega
  replace l_j : N_j < U2.heap.size := by omega
  replace l_u : N_u < U2.heap.size := by omega
  replace hlow : w.heap.size ≤ U2.heap.size := by omega
  clear hb9 hs9
  by_cases hr : r = 0
  · subst hr
    have hME := HE.out.1
    obtain ⟨hok, hlo, hhi, hroom, U9, hU9, hMR⟩ := most_bounds hME
    have hk0 := (HE.out.2.1 rfl).1
    have hok2 := hok
    unfold Shp.ok Jb.S at hok2
    simp at hok2
    have hj7 : j.S.mn = j.mn := rfl
    have hj8 : j.S.mx = j.mx := rfl
    obtain ⟨y, hy⟩ : ∃ y : Nat, j.mn = y := ⟨j.mn.toNat, by omega⟩
    have hlo1 : 1 ≤ y := by omega
    have hlh : y ≤ n := by rw [hj7, hy] at hlo; simpa using hlo
    have hhi16 : n ≤ 16 := by rw [hj8] at hhi; omega
    subst hk0
    have HY := Lib.hid (And.intro hy (And.intro hok (And.intro hroom hhi16)))
    clear hok2 hhi hlo hok hroom hME hU9 hMR hj7 hj8
    have y6 : U2.cell? ⟨N_j, 6, none⟩ = some (.int .i64 (y : Nat)) := (cell_blk (i := 6) B_j.out rfl).trans (by rw [← hy]; rfl)
    clear hy
    go_wp2_with fail
    refine (mostof_any 22 #[.pointer (some ⟨N_l, 0, none⟩), .pointer (some ⟨N_j, 0, none⟩), .pointer (some ⟨N_u, 0, none⟩)] (FlR L j un) (placeF j.S L.lv) y k hlo1 hlh (by omega) U2 (enters_of Tryd.func22 (by kernel_rfl) rfl) (fun m W h1 h2 hk => hCl.out N_l N_j N_u m W (HBel.out.trans (hk.mono hlow)) HY.out.2.1 (by omega) (by omega) (by have := HY.out.2.2.1; omega) ((hk.block _ l_l).trans B_l.out) ((hk.block _ l_j).trans B_j.out) ((hk.block _ l_u).trans B_u.out))).mono ?_
    rintro e U3 ⟨⟨A2, k2, c2, r2, n2', rfl, hT9, hS9, hN9⟩, hb9⟩
    have hs9 := hb9.size
    have HS := Lib.hid (And.intro hT9 (And.intro hS9 hN9))
    clear hT9 hS9 hN9 y6
    replace HBel := Lib.hid (HBel.out.trans (hb9.mono hlow))
    replace B_l : Hid (U3.heap[N_l]? = some (.cells #[.int .i64 L.now, .int .i64 L.hd, .int .i64 L.pr, .int .i64 L.to, .slice L.A1 n1 L.c1, .slice L.A2 n2 L.c2, .slice L.A3 n3 L.c3, .slice L.A4 n4 L.c4, .slice L.A5 n5 L.c5] 28 (0, 0))) := Lib.hid ((hb9.block _ l_l).trans B_l.out)
    replace B_j : Hid (U3.heap[N_j]? = some (.cells #[.int .i64 j.id, .int .i64 j.q, .int .i64 j.p, .int .i64 j.r, .int .i64 j.g, .int .i64 j.c, .int .i64 j.mn, .int .i64 j.mx] 32 (0, 0))) := Lib.hid ((hb9.block _ l_j).trans B_j.out)
    replace B_u : Hid (U3.heap[N_u]? = some (.cells #[.int .i64 un] 3 (0, 0))) := Lib.hid ((hb9.block _ l_u).trans B_u.out)
    replace l_l : N_l < U3.heap.size := by omega
    replace l_j : N_j < U3.heap.size := by omega
    replace l_u : N_u < U3.heap.size := by omega
    replace hlow : w.heap.size ≤ U3.heap.size := by omega
    clear hb9 hs9
    go_wp2
    go_ret2
    refine ⟨⟨A2, k2, c2, r2, k, n2', rfl, .inr ⟨HE.out.1, ?_⟩, fun e => ?_, fun e => (HS.out.2.2 e).2.1⟩, by rw [HB0.out]; exact HBel.out⟩
    · have e1 : j.S.mn.toNat = y := by show j.mn.toNat = y; rw [HY.out.1]; rfl
      unfold FillR
      rw [e1]
      exact HS.out.1
    · obtain ⟨a1, a2, a3, a4⟩ := HS.out.2.1 e
      have hn9 : n2' ≤ k := by
        rcases HS.out.1 with ⟨_, _, h9, _⟩ | ⟨h9, _⟩
        · exact h9
        · exact absurd e h9
      have hr9 : n2' ≤ roomF j.S L.lv := Nat.le_trans hn9 HY.out.2.2.1
      exact ⟨hn9, HY.out.2.2.2, hr9, by rw [a1, placeF_len hr9], a1, a2, a3, a4⟩
  · have t1 : (r != 0) = true := by simp [hr]
    have HR := Lib.hid hr
    clear hr
    go_wp2
    go_ret2
    exact ⟨⟨_, _, _, r, n, 0, rfl, .inl ⟨r, HE.out.1, HR.out, rfl⟩, (fun e => absurd e HR.out), fun _ => rfl⟩, by rw [HB0.out]; exact HBel.out⟩
end Go.Proofs.YtppapmacngdefaaDoor
