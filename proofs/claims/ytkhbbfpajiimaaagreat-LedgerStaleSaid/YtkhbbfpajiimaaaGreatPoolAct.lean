/- Calls and slots that come in; the laws' own few and do. -/
import Derived.Test.YtkhbbfpajiimaaaGreatReads
import Derived.Test.YtkhbbfpajiimaaaGreatPoolTell
set_option maxRecDepth 100000
namespace Go.Proofs.YtkhbbfpajiimaaaGreat
open Go.ChangeShapes Go.WideShapes Go.ChangeAt Go.RowKit Go.Deep

def slSh : Sh := .struct (.cons (.struct (.cons (.int .i64) (.cons (.int .i64) .nil))) (.cons (.int .u64) (.cons (.int .i64) .nil)))
def acSh : Sh := .struct (.cons (.int .i64) (.cons (.int .i64) (.cons (.slice slSh) .nil)))
/-- A call. -/
structure Ac where
  kind : Int
  node : Int
  sl : List PM.Sl
structure AcOk (a : Ac) : Prop where
  kind : (Lit.int .i64 a.kind).wf = true
  node : (Lit.int .i64 a.node).wf = true
  sl : ∀ s ∈ a.sl, SlOk s
  few : a.sl.length ≤ maxLen
def ActAt (w : World) (B b o : Nat) (a : Ac) : Prop :=
  ∃ A c, w.cell? ⟨b, o, none⟩ = some (.int .i64 a.kind) ∧ w.cell? ⟨b, o + 1, none⟩ = some (.int .i64 a.node) ∧ w.cell? ⟨b, o + 2, none⟩ = some (.slice A a.sl.length c) ∧ Slots w B A a.sl
abbrev Acts (w : World) (B : Nat) (A : Option Addr) (l : List Ac) : Prop := Rows B A (ActAt w B) 3 l
theorem ActAt.keep {w w' : World} {B b o : Nat} {a : Ac} (h : ActAt w B b o a) (hb : b < B) (hk : Below B w w') : ActAt w' B b o a := by
  obtain ⟨A, c, h1, h2, h3, h4⟩ := h
  exact ⟨A, c, (hk.cell (p := ⟨b, o, none⟩) hb).trans h1, (hk.cell (p := ⟨b, o + 1, none⟩) hb).trans h2, (hk.cell (p := ⟨b, o + 2, none⟩) hb).trans h3, Slots.keep h4 hk (Nat.le_refl _)⟩
theorem Acts.keep {w w' : World} {B : Nat} {A : Option Addr} {l : List Ac} (h : Acts w B A l) (hk : Below B w w') : Acts w' B A l := h.imp (Nat.le_refl _) fun _ _ _ hb hd => hd.keep hb hk
theorem nat_of_u64 {m : Int} (h : (Lit.int .u64 m).wf = true) : ∃ n : Nat, m = n ∧ n < 18446744073709551616 := by
  have := bounds_u64 h
  exact ⟨m.toNat, by omega, by omega⟩
theorem sl_lift {w : World} {B : Nat} {cs : List Value} (hl : cs.length = 4) (h : slSh.Holds w B cs) : ∃ s : PM.Sl, cs = [.int .i64 s.n, .int .i64 s.d, .int .u64 (s.m : Nat), .int .i64 s.c] ∧ SlOk s := by
  match cs, hl with
  | [a, b, c, d], _ =>
    simp [slSh, Sh.Holds, Sh.size] at h
    obtain ⟨⟨⟨x, rfl, hx⟩, ⟨y, rfl, hy⟩⟩, ⟨m, rfl, hm⟩, ⟨z, rfl, hz⟩⟩ := h
    obtain ⟨n, rfl, hn⟩ := nat_of_u64 hm
    exact ⟨⟨x, y, n, z⟩, rfl, ⟨hx, hy, hn, hz⟩⟩
theorem sl_at {w : World} {b o : Nat} {s : PM.Sl} {cs : List Value} (e : cs = [.int .i64 s.n, .int .i64 s.d, .int .u64 (s.m : Nat), .int .i64 s.c]) (hat : ∀ j u, cs[j]? = some u → w.cell? ⟨b, o + j, none⟩ = some u) : SlAt w b o s := by
  subst e
  exact ⟨hat 0 _ rfl, hat 1 _ rfl, hat 2 _ rfl, hat 3 _ rfl⟩
theorem slots_lift {w : World} {B : Nat} {v : Value} (h : (Sh.slice slSh).Holds w B [v]) : ∃ (A : Option Addr) (c : Nat) (l : List PM.Sl), v = .slice A l.length c ∧ l.length ≤ c ∧ c ≤ maxLen ∧ Slots w B A l ∧ ∀ s ∈ l, SlOk s :=
  rows_of h fun b o cs _ hl hat hh => by
    obtain ⟨s, e, hs⟩ := sl_lift hl hh
    exact ⟨s, sl_at e hat, hs⟩
theorem acts_lift {w : World} {B : Nat} {v : Value} (h : (Sh.slice acSh).Holds w B [v]) : ∃ (A : Option Addr) (c : Nat) (l : List Ac), v = .slice A l.length c ∧ l.length ≤ c ∧ c ≤ maxLen ∧ Acts w B A l ∧ ∀ a ∈ l, AcOk a :=
  rows_of h fun b o cs _ hl hat hh => by
    match cs, hl with
    | [c0, c1, c2], _ =>
      simp only [acSh, Sh.Holds, Sh.size, List.take_succ_cons, List.take_zero, List.drop_succ_cons, List.drop_zero] at hh
      obtain ⟨⟨x, e0, hx⟩, ⟨y, e1, hy⟩, h2, _⟩ := hh
      cases e0; cases e1
      obtain ⟨A, c, l, rfl, l1, l2, l3, l4⟩ := slots_lift (show (Sh.slice slSh).Holds w B [c2] from h2)
      exact ⟨⟨x, y, l⟩, ⟨A, c, hat 0 _ rfl, hat 1 _ rfl, hat 2 _ rfl, l3⟩, ⟨hx, hy, l4, Nat.le_trans l1 l2⟩⟩
section
variable {H : Type} {enc : TypeId × Value → H} {w : World} {held : Bool} {r : Reach} {b0 : Nat} {v : Value} {d : DataW H} {p : List MemPlace}
theorem slots_of (hv : Value.okWide Tryz.prog w r b0 42 v) (h : DataW.Trod enc Tryz.prog w 0 (fun _ => true) held 42 v d p) :
    ∃ (A : Option Addr) (c : Nat) (l : List PM.Sl), v = .slice A l.length c ∧ l.length ≤ c ∧ c ≤ maxLen ∧ Slots w w.heap.size A l ∧ ∀ s ∈ l, SlOk s :=
  slots_lift (arg_slice Tryz.underlying42 (by kernel_rfl) hv h)
theorem slot_of (hv : Value.okWide Tryz.prog w r b0 41 v) (h : DataW.Trod enc Tryz.prog w 0 (fun _ => true) held 41 v d p) : ∃ s : PM.Sl, v = slV s ∧ SlOk s := by
  obtain ⟨cs, rfl, hl, hh⟩ := arg_struct (sh := slSh) Tryz.underlying41 (by kernel_rfl) hv h
  obtain ⟨s, rfl, hs⟩ := sl_lift (by rw [hl]; kernel_rfl) hh
  exact ⟨s, rfl, hs⟩
end
/-! ### few -/
def fewA (l : List Ac) : Bool := decide (l.length ≤ 60) && l.all fun a => decide (a.sl.length ≤ 40)
/-! ### do -/
def act (fs : List Fr) (st : List Fr × List Bool) (a : Ac) : Int × List Fr × List Bool :=
  if a.kind = 0 then ((PM.whole fs st.2 false a.sl st.1).1, (PM.whole fs st.2 false a.sl st.1).2, st.2)
  else if a.kind = 1 then ((PM.whole fs st.2 true a.sl st.1).1, (PM.whole fs st.2 true a.sl st.1).2, st.2)
  else if a.kind = 2 then ((turn st.2 a.node true).1, st.1, (turn st.2 a.node true).2)
  else ((turn st.2 a.node false).1, st.1, (turn st.2 a.node false).2)
/-- A pool within these blocks. -/
def PoolIn (w : World) (F : Nat → Prop) (p : Nat) (fs : List Fr) (st : List Fr × List Bool) : Prop := ∃ T g dm, PoolAt w T p g dm fs st.1 st.2 ∧ F p ∧ F g ∧ F dm ∧ ∀ i, T i → F i
end Go.Proofs.YtkhbbfpajiimaaaGreat
