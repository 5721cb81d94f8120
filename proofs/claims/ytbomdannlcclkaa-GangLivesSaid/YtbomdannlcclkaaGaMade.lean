/- Books made since a world; two side by side; what the laws ask of the records. -/
import Derived.Test.YtbomdannlcclkaaFrame
import Derived.Test.YtbomdannlcclkaaGaIn
set_option linter.unusedVariables false
namespace Go.Proofs.Ytbomdannlcclkaa
open Go.RowKit
/-- A book made since world w0; blocks S are none of its own. -/
def GaMade (T : TypeId) (w0 w : World) (p : Nat) (L : List Rc) (S : Nat → Prop) : Prop :=
  ∃ F, GaObj T w p F L ∧ Below w0.heap.size w0 w ∧ (∀ i, F i → w0.heap.size ≤ i) ∧ ∀ i, S i → i < w.heap.size ∧ ¬ F i
section
variable {T : TypeId} {w0 w w' : World} {p : Nat} {L : List Rc} {S : Nat → Prop}
theorem GaMade.below (h : GaMade T w0 w p L S) : Below w0.heap.size w0 w := by obtain ⟨F, _, h2, _⟩ := h; exact h2
theorem GaMade.keep (h : GaMade T w0 w p L S) (hk : Below w.heap.size w w') : GaMade T w0 w' p L S := by
  obtain ⟨F, h1, h2, h3, h4⟩ := h
  exact ⟨F, h1.keep hk, below_step h2 hk, h3, fun i hi => ⟨Nat.lt_of_lt_of_le (h4 i hi).1 hk.size, (h4 i hi).2⟩⟩
/-- What came meanwhile is none of its own. -/
theorem GaMade.more (h : GaMade T w0 w p L S) (hk : Below w.heap.size w w') : GaMade T w0 w' p L (fun i => S i ∨ (w.heap.size ≤ i ∧ i < w'.heap.size)) := by
  obtain ⟨F, h1, h2, h3, h4⟩ := h
  refine ⟨F, h1.keep hk, below_step h2 hk, h3, fun i hi => ?_⟩
  rcases hi with hi | hi
  · exact ⟨Nat.lt_of_lt_of_le (h4 i hi).1 hk.size, (h4 i hi).2⟩
  · exact ⟨hi.2, fun hf => by have := h1.lt i hf; omega⟩
theorem GaMade.less {S' : Nat → Prop} (h : GaMade T w0 w p L S) (hs : ∀ i, S' i → S i) : GaMade T w0 w p L S' := by
  obtain ⟨F, h1, h2, h3, h4⟩ := h
  exact ⟨F, h1, h2, h3, fun i hi => h4 i (hs i hi)⟩
theorem GaMade.len (h : GaMade T w0 w p L S) : L.length ≤ 4096 := by obtain ⟨F, h1, _⟩ := h; exact h1.len
theorem new_m (hb : Below w0.heap.size w0 w) : Calls Try.prog 13 #[] w fun e w' => e = .returned (.pointer (some ⟨w.heap.size, 0, none⟩)) ∧ GaMade 68 w0 w' w.heap.size [] (fun i => i < w.heap.size) :=
  (newbook_any w).mono fun e w' h => ⟨h.1, by
    rw [← h.2]
    exact ⟨_, GaObj.new _ w, hb.alloc hb.size _, fun i hi => by have := hb.size; omega, fun i hi => ⟨by simp; omega, by omega⟩⟩⟩
theorem do_m (h : GaMade T w0 w p L S) (a : Ga) :
    Calls Try.prog 14 #[.pointer (some ⟨p, 0, none⟩), gaV a] w fun e w' => e = .returned (.tuple #[.int .i64 (GL.actN L a), rcV (GL.actR L a), .int .i64 (GL.actE L a)]) ∧ GaMade T w0 w' p (GL.actL L a) S ∧ ∀ i, S i → w'.heap[i]? = w.heap[i]? := by
  obtain ⟨F, h1, h2, h3, h4⟩ := h
  refine (do_any T p F L a w h1).mono fun e w' ⟨e1, F', k1, k2, k3⟩ => ⟨e1, ⟨F', k1, h2.trans (k2.below h2.size h3), fun i hi => ?_, fun i hi => ?_⟩, fun i hi => k2.block i (h4 i hi).1 (h4 i hi).2⟩
  · rcases k3 i hi with e | e
    · exact h3 i e
    · have := h2.size; omega
  · refine ⟨Nat.lt_of_lt_of_le (h4 i hi).1 k2.size, fun hf => ?_⟩
    rcases k3 i hf with e | e
    · exact (h4 i hi).2 e
    · have := (h4 i hi).1; omega
/-- A call that leaves blocks of the book alone written. -/
theorem GaMade.call {F : Nat → Prop} {L' : List Rc} (h1 : GaObj T w p F L) (h2 : Below w0.heap.size w0 w) (h3 : ∀ i, F i → w0.heap.size ≤ i) (h4 : ∀ i, S i → i < w.heap.size ∧ ¬ F i) (k1 : GaObj T w' p F L') (k2 : Foot F w w') : GaMade T w0 w' p L' S :=
  ⟨F, k1, h2.trans (k2.below h2.size h3), h3, fun i hi => ⟨Nat.lt_of_lt_of_le (h4 i hi).1 k2.size, (h4 i hi).2⟩⟩
theorem reserve_m (h : GaMade T w0 w p L S) (id m l k : Int) :
    Calls Try.prog 22 #[.pointer (some ⟨p, 0, none⟩), .int .i64 id, .int .i64 m, .int .i64 l, .int .i64 k] w fun e w' => e = .returned (.int .i64 (GL.chE L id (GL.resE · m))) ∧ GaMade T w0 w' p (GL.chL L id (GL.resE · m) (GL.resR · m l k)) S ∧ ∀ i, S i → w'.heap[i]? = w.heap[i]? := by
  obtain ⟨F, h1, h2, h3, h4⟩ := h
  exact (reserve_any T p F L id m l k w h1).mono fun e w' ⟨e1, k1, k2⟩ => ⟨e1, GaMade.call h1 h2 h3 h4 k1 k2, fun i hi => k2.block i (h4 i hi).1 (h4 i hi).2⟩
theorem turn_m (h : GaMade T w0 w p L S) (id v : Int) :
    Calls Try.prog 23 #[.pointer (some ⟨p, 0, none⟩), .int .i64 id, .int .i64 v] w fun e w' => e = .returned (.int .i64 (GL.chE L id (GL.turE · v))) ∧ GaMade T w0 w' p (GL.chL L id (GL.turE · v) (GL.turR · v)) S ∧ ∀ i, S i → w'.heap[i]? = w.heap[i]? := by
  obtain ⟨F, h1, h2, h3, h4⟩ := h
  exact (turn_any T p F L id v w h1).mono fun e w' ⟨e1, k1, k2⟩ => ⟨e1, GaMade.call h1 h2 h3 h4 k1 k2, fun i hi => k2.block i (h4 i hi).1 (h4 i hi).2⟩
theorem resize_m (h : GaMade T w0 w p L S) (id v : Int) :
    Calls Try.prog 26 #[.pointer (some ⟨p, 0, none⟩), .int .i64 id, .int .i64 v] w fun e w' => e = .returned (.int .i64 (GL.chE L id (GL.sizE · v))) ∧ GaMade T w0 w' p (GL.chL L id (GL.sizE · v) (GL.sizR · v)) S ∧ ∀ i, S i → w'.heap[i]? = w.heap[i]? := by
  obtain ⟨F, h1, h2, h3, h4⟩ := h
  exact (resize_any T p F L id v w h1).mono fun e w' ⟨e1, k1, k2⟩ => ⟨e1, GaMade.call h1 h2 h3 h4 k1 k2, fun i hi => k2.block i (h4 i hi).1 (h4 i hi).2⟩
theorem start_m (h : GaMade T w0 w p L S) (id n : Int) :
    Calls Try.prog 25 #[.pointer (some ⟨p, 0, none⟩), .int .i64 id, .int .i64 n] w fun e w' => e = .returned (.tuple #[.int .i64 (GL.staN L id n), .int .i64 (GL.chE L id (GL.staE · n))]) ∧ GaMade T w0 w' p (GL.chL L id (GL.staE · n) (GL.staR · n)) S ∧ ∀ i, S i → w'.heap[i]? = w.heap[i]? := by
  obtain ⟨F, h1, h2, h3, h4⟩ := h
  exact (start_any T p F L id n w h1).mono fun e w' ⟨e1, k1, k2⟩ => ⟨e1, GaMade.call h1 h2 h3 h4 k1 k2, fun i hi => k2.block i (h4 i hi).1 (h4 i hi).2⟩
theorem add_m (h : GaMade T w0 w p L S) (j : Jb) (s : Int) :
    Calls Try.prog 24 #[.pointer (some ⟨p, 0, none⟩), jbV j, .int .i64 s] w fun e w' => e = .returned (.tuple #[rcV (GL.addR L j s), .int .i64 (GL.addE L j.id)]) ∧ GaMade T w0 w' p (GL.addL L j s) S ∧ ∀ i, S i → w'.heap[i]? = w.heap[i]? := by
  obtain ⟨F, h1, h2, h3, h4⟩ := h
  refine (add_any T p F L j s w h1).mono fun e w' ⟨e1, F', k1, k2, k3⟩ => ⟨e1, ⟨F', k1, h2.trans (k2.below h2.size h3), fun i hi => ?_, fun i hi => ?_⟩, fun i hi => k2.block i (h4 i hi).1 (h4 i hi).2⟩
  · rcases k3 i hi with e | e
    · exact h3 i e
    · have := h2.size; omega
  · refine ⟨Nat.lt_of_lt_of_le (h4 i hi).1 k2.size, fun hf => ?_⟩
    rcases k3 i hf with e | e
    · exact (h4 i hi).2 e
    · have := (h4 i hi).1; omega
theorem get_m (h : GaMade T w0 w p L S) (id : Int) :
    Calls Try.prog 20 #[.pointer (some ⟨p, 0, none⟩), .int .i64 id] w fun e w' => e = .returned (.tuple #[rcV (GL.getR L id), .int .i64 (GL.getE L id)]) ∧ Below w.heap.size w w' := by
  obtain ⟨F, h1, _⟩ := h
  exact get_any T p F L id w h1
/-- Records told: a slice of their own. -/
abbrev Rcs (w : World) (A : Option Addr) (L : List Rc) : Prop := Els rcC 16 w w.heap.size A L ∧ ∀ b off, A = some ⟨b, off, none⟩ → b < w.heap.size
theorem rcs_own {B c : Nat} {A : Option Addr} (h : w.ownsRow B 42 16 (.slice A L.length c) L.length (L.flatMap rcC)) : L.length ≤ c ∧ c ≤ maxLen ∧ Els rcC 16 w w.heap.size A L ∧ (∀ b off, A = some ⟨b, off, none⟩ → B ≤ b ∧ b < w.heap.size ∧ off = 0) := by
  obtain ⟨h1, h2⟩ := els_own rcC_len h rfl
  rcases h.2 with ⟨e, h0⟩ | ⟨g, cap, cur, e, _, _, h3, h4, _⟩
  · injection e with e1 _ e3; subst e1
    exact ⟨by omega, by unfold maxLen; omega, h1, fun b off e => by cases e⟩
  · injection e with e1 _ e3; subst e3
    refine ⟨h3, h4, h1, fun b off e => ?_⟩
    have := h2 b off e
    rw [e1] at e; injection e with e; injection e with _ e5
    exact ⟨this.1, this.2, e5.symm⟩
theorem all_m (h : GaMade T w0 w p L S) :
    Calls Try.prog 17 #[.pointer (some ⟨p, 0, none⟩)] w fun e w' => ∃ A c, e = .returned (.slice A L.length c) ∧ L.length ≤ c ∧ c ≤ maxLen ∧ Els rcC 16 w' w'.heap.size A L ∧ (∀ b off, A = some ⟨b, off, none⟩ → w.heap.size ≤ b ∧ b < w'.heap.size ∧ off = 0) ∧ Below w.heap.size w w' := by
  obtain ⟨F, h1, _⟩ := h
  refine (allo_any T p F L w h1).mono fun e w' ⟨A, c, e1, ho, hb⟩ => ?_
  obtain ⟨k1, k2, k3, k4⟩ := rcs_own ho
  exact ⟨A, c, e1, k1, k2, k3, k4, hb⟩
theorem in_m (h : GaMade T w0 w p L S) (s : Int) :
    Calls Try.prog 18 #[.pointer (some ⟨p, 0, none⟩), .int .i64 s] w fun e w' => ∃ A c, e = .returned (.slice A (GL.inL L s).length c) ∧ (GL.inL L s).length ≤ c ∧ c ≤ maxLen ∧ Els rcC 16 w' w'.heap.size A (GL.inL L s) ∧ (∀ b off, A = some ⟨b, off, none⟩ → w.heap.size ≤ b ∧ b < w'.heap.size ∧ off = 0) ∧ Below w.heap.size w w' := by
  obtain ⟨F, h1, _⟩ := h
  refine (ino_any T p F L s w h1).mono fun e w' ⟨A, c, e1, ho, hb⟩ => ?_
  obtain ⟨k1, k2, k3, k4⟩ := rcs_own ho
  exact ⟨A, c, e1, k1, k2, k3, k4, hb⟩
end
/-- A record out of a slice of records. -/
theorem rcs_get {w : World} {B : Nat} {A : Option Addr} {L : List Rc} (h : Els rcC 16 w B A L) (h0 : ∀ b off, A = some ⟨b, off, none⟩ → off = 0) {k : Nat} {x : Rc} (hx : L[k]? = some x) : ∃ b, A = some ⟨b, 0, none⟩ ∧ b < B ∧ RcAt w b (k * 16) x := by
  rcases h with h | ⟨b, off, rfl, hb, hc⟩
  · rw [h] at hx; simp at hx
  · have := h0 b off rfl
    subst this
    refine ⟨b, rfl, hb, ?_⟩
    have := hc k x hx
    rwa [Nat.zero_add] at this
end Go.Proofs.Ytbomdannlcclkaa
