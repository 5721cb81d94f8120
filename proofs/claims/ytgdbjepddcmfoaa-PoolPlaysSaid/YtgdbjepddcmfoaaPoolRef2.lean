/- The document's pool in memory; spot, Turn. -/
import Derived.Deep.RegionHeld3
import Derived.StillTactics
import Derived.StillTailTactics
import Derived.Test.YtgdbjepddcmfoaaPoolRef
namespace Go.Proofs.Ytgdbjepddcmfoaa
open Go.RowKit

def TakenAt (w : World) (tk : Nat) (ts : List Fr) : Prop := ∃ cur, w.heap[tk]? = some (.cells cur 62 (0, 0)) ∧ ∀ (j : Nat) v, (ts.flatMap frC)[j]? = some v → cur[j]? = some v
def boolBlk (dr : List Bool) : Obj := .cells (dr.map Value.bool).toArray 4 (0, 0)
/-- The document's pool: block q; its rows of all (al) and of what is taken (tk), and its row of drained nodes (db). -/
structure RefAt (w : World) (q al tk db ca ct cd : Nat) (fs ts : List Fr) (dr : List Bool) : Prop where
  ok : FsOk fs dr.length
  inv : PM.Inv fs ts
  blk : w.heap[q]? = some (.cells #[.slice (some ⟨al, 0, none⟩) fs.length ca, .slice (some ⟨tk, 0, none⟩) fs.length ct, .slice (some ⟨db, 0, none⟩) dr.length cd] 49 (0, 0))
  all : ∀ (i : Nat) (f : Fr), fs[i]? = some f → FrAt w al (i * 4) f
  taken : TakenAt w tk ts
  drained : w.heap[db]? = some (boolBlk dr)
  ne : q ≠ al ∧ q ≠ tk ∧ q ≠ db ∧ al ≠ tk ∧ al ≠ db ∧ tk ≠ db
section
variable {w w' : World} {q al tk db ca ct cd : Nat} {fs ts : List Fr} {dr : List Bool}
theorem TakenAt.at_ (h : TakenAt w tk ts) {i : Nat} {t : Fr} (ht : ts[i]? = some t) : FrAt w tk (i * 4) t := by
  obtain ⟨cur, h1, h2⟩ := h
  have hc : ∀ r u, r < 4 → (frC t)[r]? = some u → w.cell? ⟨tk, i * 4 + r, none⟩ = some u := fun r u hr hu => cell_blk h1 (h2 _ _ (by rw [flat_at ht hr, hu]))
  exact ⟨hc 0 _ (by omega) rfl, hc 1 _ (by omega) rfl, hc 2 _ (by omega) rfl, hc 3 _ (by omega) rfl⟩
theorem RefAt.lt (h : RefAt w q al tk db ca ct cd fs ts dr) : q < w.heap.size ∧ al < w.heap.size ∧ tk < w.heap.size ∧ db < w.heap.size := by
  obtain ⟨f, hf⟩ := get_lt (l := fs) (k := 0) h.ok.pos
  obtain ⟨cur, h1, _⟩ := h.taken
  exact ⟨blk_lt h.blk, lt_of_cell (h.all 0 f hf).1, blk_lt h1, blk_lt h.drained⟩
theorem RefAt.off (h : RefAt w q al tk db ca ct cd fs ts dr) (hk : ∀ i, i < w.heap.size → (i = q ∨ i = al ∨ i = tk ∨ i = db) → w'.heap[i]? = w.heap[i]?) : RefAt w' q al tk db ca ct cd fs ts dr := by
  obtain ⟨l1, l2, l3, l4⟩ := h.lt
  obtain ⟨cur, h1, h2⟩ := h.taken
  exact ⟨h.ok, h.inv, (hk q l1 (.inl rfl)).trans h.blk, fun i f hf => (h.all i f hf).of (hk al l2 (.inr (.inl rfl))), ⟨cur, (hk tk l3 (.inr (.inr (.inl rfl)))).trans h1, h2⟩, (hk db l4 (.inr (.inr (.inr rfl)))).trans h.drained, h.ne⟩
theorem RefAt.keep (h : RefAt w q al tk db ca ct cd fs ts dr) (hk : Below w.heap.size w w') : RefAt w' q al tk db ca ct cd fs ts dr := h.off fun i hi _ => hk.block i hi
theorem RefAt.foot {F : Nat → Prop} (h : RefAt w q al tk db ca ct cd fs ts dr) (hk : Foot F w w') (hF : ∀ i, F i → i ≠ q ∧ i ≠ al ∧ i ≠ tk ∧ i ≠ db) : RefAt w' q al tk db ca ct cd fs ts dr := h.off fun i hi ht => hk.block i hi fun hf => by
  obtain ⟨a, b, c, d⟩ := hF i hf
  rcases ht with e | e | e | e
  · exact a e
  · exact b e
  · exact c e
  · exact d e
theorem RefAt.heads (h : RefAt w q al tk db ca ct cd fs ts dr) : w.cell? ⟨q, 0, none⟩ = some (.slice (some ⟨al, 0, none⟩) fs.length ca) ∧ w.cell? ⟨q, 1, none⟩ = some (.slice (some ⟨tk, 0, none⟩) fs.length ct) ∧ w.cell? ⟨q, 2, none⟩ = some (.slice (some ⟨db, 0, none⟩) dr.length cd) :=
  ⟨cell_blk (i := 0) h.blk rfl, cell_blk (i := 1) h.blk rfl, cell_blk (i := 2) h.blk rfl⟩
theorem RefAt.bit (h : RefAt w q al tk db ca ct cd fs ts dr) {k : Nat} {b : Bool} (hk : dr[k]? = some b) : w.cell? ⟨db, k, none⟩ = some (.bool b) ∧ w.frozen? ⟨db, k, none⟩ = false := by
  have hd := h.drained
  unfold boolBlk at hd
  exact ⟨cell_blk hd (by simp [hk]), frozen_blk hd⟩
end
/-! ### spot -/
def spotN (x y : Int) (fs : List Fr) : Int := match PM.find x y fs with
  | some k => (k : Int)
  | none => -1
theorem find_first : ∀ {x y : Int} {l : List Fr} {k : Nat} {f : Fr}, (l.take k).all (fun f => !PM.isAt x y f) = true → l[k]? = some f → PM.isAt x y f = true → PM.find x y l = some k
  | x, y, [], k, f, _, h, _ => by simp at h
  | x, y, g :: l, 0, f, _, h, h1 => by
    simp at h; subst h
    unfold PM.find; rw [if_pos h1]
  | x, y, g :: l, k + 1, f, ha, h, h1 => by
    rw [List.take_succ_cons, List.all_cons, Bool.and_eq_true] at ha
    unfold PM.find
    rw [if_neg (by simpa using ha.1), find_first ha.2 (by simpa using h) h1]
    rfl
theorem find_none : ∀ {x y : Int} {l : List Fr}, l.all (fun f => !PM.isAt x y f) = true → PM.find x y l = none
  | x, y, [], _ => rfl
  | x, y, g :: l, ha => by
    rw [List.all_cons, Bool.and_eq_true] at ha
    unfold PM.find
    rw [if_neg (by simpa using ha.1), find_none ha.2]
    rfl
set_option maxRecDepth 100000 in
theorem spot_eql (a b x y : Int) (W : World) : (binOp .eql 58 (.agg #[.int .i64 a, .int .i64 b]) (.agg #[.int .i64 x, .int .i64 y])).run Try.prog W = .ok (.bool (a == x && b == y)) W := by
  go_simp
  by_cases h1 : a = x <;> by_cases h2 : b = y <;> simp [h1, h2]
set_option maxRecDepth 100000 in
set_option maxHeartbeats 1000000 in
theorem refspot_any (q al tk db ca ct cd : Nat) (fs ts : List Fr) (dr : List Bool) (x y : Int) (w : World) (h : RefAt w q al tk db ca ct cd fs ts dr) :
    Calls Try.prog 50 #[.pointer (some ⟨q, 0, none⟩), .agg #[.int .i64 x, .int .i64 y]] w fun e w' => e = .returned (.int .i64 (spotN x y fs)) ∧ Below w.heap.size w w' := by
  obtain ⟨R, hR⟩ : ∃ R, R = spotN x y fs := ⟨_, rfl⟩
  rw [← hR]
  have hB1 := (Below.refl w.heap.size w).alloc (Nat.le_refl _) (.cells #[.int .i64 x, .int .i64 y] 58)
  have bS := heap_alloc_new w (.cells #[.int .i64 x, .int .i64 y] 58)
  obtain ⟨l1, l2, l3, l4⟩ := h.lt
  obtain ⟨n, hn⟩ : ∃ n, fs.length = n := ⟨_, rfl⟩
  have hfew : n ≤ 1000 := by rw [← hn]; exact h.ok.few
  obtain ⟨c0, _, _⟩ := h.heads
  rw [hn] at c0
  have Q := Lib.hid (And.intro hR (And.intro hn h.all))
  clear hR hn h
  go_enter Try.func50, Try.ntmps50
  go_wp2
  obtain ⟨W, hW⟩ : ∃ W, W = w.alloc (.cells #[.int .i64 x, .int .i64 y] 58) := ⟨_, rfl⟩
  rw [← hW] at hB1 bS ⊢
  have hlW : w.heap.size < W.heap.size := by rw [hW]; simp
  have HB := Lib.hid (And.intro hB1 (And.intro bS c0))
  clear hW hB1 bS c0
  go_loopw [5] (fun i wr => ∃ k : Nat, i = .int .i64 k ∧ k ≤ n ∧ Below W.heap.size W wr ∧ Hid ((fs.take k).all (fun f => !PM.isAt x y f) = true)) (fun i _ => n - (intOf i).toNat)
  case atStart => exact ⟨0, rfl, by omega, Below.refl _ _, Lib.hid rfl⟩
  case round =>
    obtain ⟨k, rfl, hk, hBl, hall⟩ := hrel
    have hBw := HB.out.1.trans (hBl.mono (show w.heap.size ≤ W.heap.size by omega))
    have c0 := (hBw.cell (p := ⟨q, 0, none⟩) l1).trans HB.out.2.2
    by_cases hlt : k < n
    · obtain ⟨f, hx⟩ := get_lt (l := fs) (k := k) (by rw [Q.out.2.1]; exact hlt)
      obtain ⟨f0, f1, _, _⟩ := (Q.out.2.2 k f hx).keep l2 hBw
      have hbs := (hBl.block _ hlW).trans HB.out.2.1
      have s0 : wr.cell? ⟨w.heap.size, 0, none⟩ = some (.int .i64 x) := cell_blk (i := 0) hbs rfl
      have s1 : wr.cell? ⟨w.heap.size, 1, none⟩ = some (.int .i64 y) := cell_blk (i := 1) hbs rfl
      have t0 : decide (k < n) = true := decide_eq_true hlt
      cases hat : PM.isAt x y f
      · have N := Lib.hid (all_next (p := fun f => !PM.isAt x y f) hx hall.out (by simp [hat]))
        have hc : ∀ W : World, (binOp .eql 58 (.agg #[.int .i64 (f.n : Nat), .int .i64 (f.d : Nat)]) (.agg #[.int .i64 x, .int .i64 y])).run Try.prog W = .ok (.bool false) W := fun W => by
          have h : (((f.n : Int) == x) && ((f.d : Int) == y)) = false := by simpa [PM.isAt, Bool.and_eq_false_iff] using hat
          rw [spot_eql, h]
        have HBl := Lib.hid hBl
        clear hx hat hbs hBw hBl
        go_wp2
        go_quiet (fail)
        go_wp2
        go_roundw
        case rel => exact ⟨k + 1, by go_num, by omega, below_drewN HBl.out _, N⟩
        case measure => simp [intOf]; omega
      · have eR : R = (k : Int) := by rw [Q.out.1]; unfold spotN; rw [find_first hall.out hx hat]
        subst eR
        have hc : ∀ W : World, (binOp .eql 58 (.agg #[.int .i64 (f.n : Nat), .int .i64 (f.d : Nat)]) (.agg #[.int .i64 x, .int .i64 y])).run Try.prog W = .ok (.bool true) W := fun W => by
          have h : (((f.n : Int) == x) && ((f.d : Int) == y)) = true := by simpa [PM.isAt] using hat
          rw [spot_eql, h]
        have HBw := Lib.hid hBw
        clear hx hat hbs hBw hBl
        go_wp2
        go_quiet (fail)
        go_wp2
        go_ret
        exact ⟨rfl, below_drewN HBw.out _⟩
    · obtain rfl : k = n := by omega
      have eR : R = -1 := by
        have e := hall.out
        rw [← Q.out.2.1] at e
        rw [Q.out.1]; unfold spotN; rw [find_none (all_end e)]
      subst eR
      have HBw := Lib.hid hBw
      clear hlt hBw
      go_wp2
      go_ret
      exact ⟨rfl, HBw.out⟩
end Go.Proofs.Ytgdbjepddcmfoaa
