/- What comes in to order's laws: a wait, a slice of waits. -/
import Derived.Test.YtdeniikaddlifaaReads
import Derived.Test.YtdeniikaddlifaaOrdMay
set_option linter.unusedVariables false
set_option maxRecDepth 100000
namespace Go.Proofs.Ytdeniikaddlifaa
open Go.ChangeShapes Go.WideShapes Go.ChangeAt Go.RowKit Go.Deep

/-- Boxes of waits, made since a world. -/
structure Bx (w0 w : World) (L : List (Nat × Wt)) : Prop where
  b : Below w0.heap.size w0 w
  c : ∀ p ∈ L, WtAt w p.1 0 p.2 ∧ p.1 < w.heap.size
theorem Bx.keep {w0 w w' : World} {L : List (Nat × Wt)} (h : Bx w0 w L) (hk : Below w.heap.size w w') : Bx w0 w' L :=
  ⟨below_step h.b hk, fun p hp => ⟨(h.c p hp).1.keep (h.c p hp).2 hk, Nat.lt_of_lt_of_le (h.c p hp).2 hk.size⟩⟩
theorem Bx.nil (w : World) : Bx w w [] := ⟨Below.refl _ _, fun p hp => by simp at hp⟩
theorem Bx.box {w0 w : World} {L : List (Nat × Wt)} (h : Bx w0 w L) (x : Wt) : Bx w0 (w.alloc (wtO x)) ((w.heap.size, x) :: L) := by
  have hk := (Below.refl w.heap.size w).alloc (Nat.le_refl _) (wtO x)
  refine ⟨below_step h.b hk, fun p hp => ?_⟩
  rcases List.mem_cons.1 hp with rfl | hp
  · exact ⟨wtAt_new (wt_new w x), by simp⟩
  · exact ⟨(h.c p hp).1.keep (h.c p hp).2 hk, by have := (h.c p hp).2; simp; omega⟩
theorem Bx.at_ {w0 w : World} {L : List (Nat × Wt)} {A : Nat} {x : Wt} (h : Bx w0 w L) (i : Nat) (hi : L[i]? = some (A, x)) (j : Nat) (v : Value) (hv : (wtC x)[j]? = some v) : w.cell? ⟨A, j, none⟩ = some v := by
  have := (h.c _ (List.mem_of_getElem? hi)).1 j v hv
  rwa [Nat.zero_add] at this
def shpSh4 : Sh := .struct (.cons (.int .i64) (.cons (.int .i64) (.cons (.int .i64) (.cons (.int .i64) .nil))))
def jobSh : Sh := .struct (.cons (.int .i64) (.cons (.int .i64) (.cons (.int .i64) (.cons (.int .i64) (.cons shpSh4 .nil)))))
def wtSh : Sh := .struct (.cons jobSh (.cons (.int .i64) (.cons (.int .i64) .nil)))
theorem wt_lift {w : World} {B : Nat} {cs : List Value} (hl : cs.length = 10) (h : wtSh.Holds w B cs) : ∃ x : Wt, cs = wtC x ∧ WtW x := by
  match cs, hl with
  | [a, b, c, d, e, f, g, i, j, k], _ =>
    simp [wtSh, jobSh, shpSh4, Sh.Holds, Sh.size] at h
    obtain ⟨⟨⟨x0, rfl, h0⟩, ⟨x1, rfl, h1⟩, ⟨x2, rfl, h2⟩, ⟨x3, rfl, h3⟩, ⟨x4, rfl, h4⟩, ⟨x5, rfl, h5⟩, ⟨x6, rfl, h6⟩, ⟨x7, rfl, h7⟩⟩, ⟨x8, rfl, h8⟩, ⟨x9, rfl, h9⟩⟩ := h
    exact ⟨⟨x0, x1, x2, x3, x4, x5, x6, x7, x8, x9⟩, rfl, ⟨h0, h1, h2, h3, h4, h5, h6, h7, h8, h9⟩⟩
section
variable {H : Type} {enc : TypeId × Value → H} {w : World} {held : Bool} {r : Reach} {b0 : Nat} {v : Value} {d : DataW H} {p : List MemPlace}
theorem wts_of (hv : Value.okWide Try.prog w r b0 31 v) (h : DataW.Trod enc Try.prog w 0 (fun _ => true) held 31 v d p) :
    ∃ (A : Option Addr) (c : Nat) (l : List Wt), v = .slice A l.length c ∧ l.length ≤ c ∧ c ≤ maxLen ∧ Wts w w.heap.size A l ∧ ∀ a ∈ l, WtW a :=
  rows_of (e := wtSh) (arg_slice (sh := .slice wtSh) Try.underlying31 (by kernel_rfl) hv h) fun b o cs _ hl hat hh => by
    obtain ⟨u, e, hu⟩ := wt_lift hl hh
    subst e
    exact ⟨u, hat, hu⟩
theorem wt_of (hv : Value.okWide Try.prog w r b0 39 v) (h : DataW.Trod enc Try.prog w 0 (fun _ => true) held 39 v d p) : ∃ x : Wt, v = wtV x ∧ WtW x := by
  obtain ⟨cs, rfl, hl, hh⟩ := arg_struct (sh := wtSh) Try.underlying39 (by kernel_rfl) hv h
  obtain ⟨s, rfl, hs⟩ := wt_lift (by rw [hl]; kernel_rfl) hh
  exact ⟨s, rfl, hs⟩
end
end Go.Proofs.Ytdeniikaddlifaa
