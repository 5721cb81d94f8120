/- A map whose keys are ints and whose elements are whatever they are: by a function from its keys to its elements' values. No program is spoken of. -/
import Derived.Maps.OwnSet
import Derived.Maps.RangeWalk
import Derived.WalkKit
import Derived.Test.YtgpfmlidchogcaaGreatKitZ
namespace Go.Proofs.YtgpfmlidchogcaaGreat
open Go.RowKit

def asIs (v : Value) : Option (DataW Value × List MemPlace) := some (.held v, [])
def MapOf (P : Program) (tk : TypeId) (w : World) (m n : Nat) (f : Int → Option Value) : Prop :=
 ∃ D : DataW Value, w.ownsMap P tk asIs m n D ∧ Maps.size D = n ∧ ∀ x : Int, (Lit.int .i64 x).wf = true → (∀ zd, D.atKey (.int .i64 x) zd = ((f x).map DataW.held).getD zd) ∧ Maps.has D (.int .i64 x) = (f x).isSome
theorem isKeyI (x : Int) : WideAt.IsKeyLit (.int .i64 x) := trivial
section
variable {P : Program} {tk tm te : TypeId} {w w' : World} {m n : Nat} {f : Int → Option Value}
theorem MapOf.lt (h : MapOf P tk w m n f) : m < w.heap.size := by
 obtain ⟨D, h1, _⟩ := h
 exact h1.lt
theorem MapOf.of_block (h : MapOf P tk w m n f) (e : w'.heap[m]? = w.heap[m]?) : MapOf P tk w' m n f := by
 obtain ⟨D, ⟨es, clock, hb, r⟩, h2⟩ := h
 exact ⟨D, ⟨es, clock, e.trans hb, r⟩, h2⟩
theorem MapOf.kind (h : MapOf P tk w m n f) : ∃ es clock, w.heap[m]? = some (.map es clock) := by
 obtain ⟨D, ⟨es, clock, hb, r⟩, h2⟩ := h
 exact ⟨es, clock, hb⟩
theorem MapOf.new (P : Program) (tk : TypeId) (w : World) : MapOf P tk (w.alloc (.map #[] 0)) w.heap.size 0 fun _ => none :=
 ⟨_, World.ownsMap_made w _ _ _, rfl, fun _ _ => ⟨fun _ => rfl, rfl⟩⟩
theorem MapOf.congr {g : Int → Option Value} (h : MapOf P tk w m n f) (e : ∀ x, (Lit.int .i64 x).wf = true → f x = g x) : MapOf P tk w m n g := by
 obtain ⟨D, h1, h2, h3⟩ := h
 exact ⟨D, h1, h2, fun x hx => by rw [← e x hx]; exact h3 x hx⟩
theorem MapOf.len (h : MapOf P tk w m n f) (ht : P.underlying tm = some (.map tk te)) (ty : TypeId) : (Builtin.len_ #[tm] ty #[.map (some m)]).run P w = .ok (.int .i64 (n : Nat)) w := by
 obtain ⟨D, h1, h2, _⟩ := h
 have := h1.len ht ty
 rwa [h2] at this
theorem MapOf.look (h : MapOf P tk w m n f) (hk : P.underlying tk = some (.int .i64)) (ht : P.underlying tm = some (.map tk te)) {z : Value} (hz : ∀ w, (zeroValue te).run P w = .ok z w) {x : Int} (hx : (Lit.int .i64 x).wf = true) :
  (Instr.lookup tm (.map (some m)) (.int .i64 x) true).run P w = .ok (.tuple #[(f x).getD z, .bool (f x).isSome]) w ∧ (Instr.lookup tm (.map (some m)) (.int .i64 x) false).run P w = .ok ((f x).getD z) w := by
 obtain ⟨D, h1, h2, h3⟩ := h
 obtain ⟨v, ps, hrun, hv⟩ := h1.look_ok (Maps.int_keyed hk) ht (hz w) (zd := .held z) (zp := []) rfl (Maps.keyOf_int_mk hk hx)
 obtain ⟨v2, ps2, hrun2, hv2⟩ := h1.lookup (Maps.int_keyed hk) ht (hz w) (zd := .held z) (zp := []) rfl (Maps.keyOf_int_mk hk hx)
 rw [(h3 x hx).1] at hv hv2
 rw [(h3 x hx).2] at hrun
 cases hf : f x with
 | none => rw [hf] at hv hv2 hrun; simp [asIs] at hv hv2; rw [hv.1] at hrun; rw [hv2.1] at hrun2; exact ⟨hrun, hrun2⟩
 | some u => rw [hf] at hv hv2 hrun; simp [asIs] at hv hv2; rw [hv.1] at hrun; rw [hv2.1] at hrun2; exact ⟨hrun, hrun2⟩
theorem MapOf.store (h : MapOf P tk w m n f) (hk : P.underlying tk = some (.int .i64)) (ht : P.underlying tm = some (.map tk te)) (hn : n < maxLen) (v : Value) {x : Int} (hx : (Lit.int .i64 x).wf = true) :
  ∃ w', (Instr.mapUpdate tm (.map (some m)) (.int .i64 x) v).run P w = .ok () w' ∧ MapOf P tk w' m (if (f x).isSome then n else n + 1) (fun y => if y = x then some v else f y) ∧ w.mapTurned w' m := by
 obtain ⟨D, h1, h2, h3⟩ := h
 have K := Maps.int_keyed hk
 obtain ⟨w', hrun, r1, r2⟩ := h1.store K ht hn (Maps.keyOf_int_mk hk hx) (val := v) (d := .held v) (ps := []) rfl
 have hsz : Maps.size (D.put (.int .i64 x) (.held v)) = if (f x).isSome then n else n + 1 := by
  rw [Maps.size_put (h1.tidy K), (h3 x hx).2, h2]
 obtain ⟨es, clock, e1, e2, e3, e4⟩ := r1
 refine ⟨w', hrun, ⟨_, ⟨es, clock, e1, e2, ?_, e4⟩, hsz, fun y hy => ?_⟩, r2⟩
 ·rw [e4] at hsz
  simp [Maps.size, length_sorted] at hsz
  omega
 by_cases e : y = x
 ·subst e
  simp only [if_true]
  exact ⟨fun zd => Maps.atKey_put_same h1.isMap (isKeyI _) _ _, Maps.has_put_same h1.isMap (isKeyI _) _⟩
 ·simp only [if_neg e]
  have ne : (Lit.int .i64 y) ≠ .int .i64 x := fun h => e (by injection h)
  exact ⟨fun zd => by rw [Maps.atKey_put_other ne]; exact (h3 y hy).1 zd, by rw [Maps.has_put_other ne]; exact (h3 y hy).2⟩
theorem MapOf.drop (h : MapOf P tk w m n f) (hk : P.underlying tk = some (.int .i64)) (ht : P.underlying tm = some (.map tk te)) {x : Int} (hx : (Lit.int .i64 x).wf = true) (ty : TypeId) :
  ∃ w', (Builtin.delete_ #[tm, tk] ty #[.map (some m), .int .i64 x]).run P w = .ok (.tuple #[]) w' ∧ MapOf P tk w' m (if (f x).isSome then n - 1 else n) (fun y => if y = x then none else f y) ∧ w.mapTurned w' m := by
 obtain ⟨D, h1, h2, h3⟩ := h
 have K := Maps.int_keyed hk
 obtain ⟨w', hrun, r1, r2⟩ := h1.drop K ht (Maps.keyOf_int_mk hk hx) ty
 have hsz := Maps.size_del (h1.tidy K) (k := .int .i64 x)
 rw [(h3 x hx).2, h2] at hsz
 have hsz' : Maps.size (D.del (.int .i64 x)) = if (f x).isSome then n - 1 else n := by
  cases hf : (f x).isSome <;> rw [hf] at hsz <;> simp at hsz ⊢ <;> omega
 obtain ⟨es, clock, e1, e2, e3, e4⟩ := r1
 refine ⟨w', hrun, ⟨_, ⟨es, clock, e1, e2, ?_, e4⟩, hsz', fun y hy => ?_⟩, r2⟩
 ·rw [e4] at hsz'
  simp [Maps.size, length_sorted] at hsz'
  omega
 by_cases e : y = x
 ·subst e
  simp only [if_true]
  exact ⟨fun zd => by rw [Maps.atKey_del_same]; rfl, Maps.has_del_same⟩
 ·simp only [if_neg e]
  have ne : (Lit.int .i64 y) ≠ .int .i64 x := fun h => e (by injection h)
  exact ⟨fun zd => by rw [Maps.atKey_del_other ne]; exact (h3 y hy).1 zd, by rw [Maps.has_del_other ne]; exact (h3 y hy).2⟩

/-! ### Gone through by range -/
def RangeOf (P : Program) (tk : TypeId) (w : World) (m r n : Nat) (f : Int → Option Value) (seen : List Int) (cnt : Nat) : Prop :=
 seen.Nodup ∧ (∀ x ∈ seen, (Lit.int .i64 x).wf = true ∧ (f x).isSome = true) ∧ ∃ (D : DataW Value) (left : Lit → Bool), w.ranges P tk asIs m r n D left cnt ∧ Maps.size D = n ∧
  (∀ x : Int, (Lit.int .i64 x).wf = true → (∀ zd, D.atKey (.int .i64 x) zd = ((f x).map DataW.held).getD zd) ∧ Maps.has D (.int .i64 x) = (f x).isSome) ∧
  ∀ x : Int, (Lit.int .i64 x).wf = true → left (.int .i64 x) = ((f x).isSome && !seen.contains x)
theorem RangeOf.map {r cnt : Nat} {seen : List Int} (h : RangeOf P tk w m r n f seen cnt) : MapOf P tk w m n f := by
 obtain ⟨_, _, D, left, h1, h2, h3, _⟩ := h
 exact ⟨D, h1.owns, h2, h3⟩
theorem RangeOf.lt {r cnt : Nat} {seen : List Int} (h : RangeOf P tk w m r n f seen cnt) : r < w.heap.size ∧ m < w.heap.size ∧ r ≠ m := by
 have hm := h.map.lt
 obtain ⟨_, _, D, left, h1, _⟩ := h
 exact ⟨h1.lt, hm, h1.ne⟩
theorem RangeOf.left_eq {r cnt : Nat} {seen : List Int} (h : RangeOf P tk w m r n f seen cnt) : w.rangeLeft m r = cnt := by
 obtain ⟨_, _, D, left, h1, _⟩ := h
 exact h1.left_eq
theorem RangeOf.kept {r cnt : Nat} {seen : List Int} (h : RangeOf P tk w m r n f seen cnt) {row : Option Nat} (hg : w.grownBy w' row) (h1 : some m ≠ row) (h2 : some r ≠ row) : RangeOf P tk w' m r n f seen cnt := by
 obtain ⟨a, b, D, left, c, d⟩ := h
 exact ⟨a, b, D, left, c.kept hg h1 h2, d⟩
theorem RangeOf.of_below {r cnt : Nat} {seen : List Int} (h : RangeOf P tk w m r n f seen cnt) (hb : Below w.heap.size w w') : RangeOf P tk w' m r n f seen cnt :=
 h.kept (row := none) ⟨hb.os, hb.tape, hb.output, hb.size, fun i hi _ => hb.block i hi⟩ (by simp) (by simp)
theorem RangeOf.foot {F : Nat → Prop} {r cnt : Nat} {seen : List Int} (h : RangeOf P tk w m r n f seen cnt) (hb : Foot F w w') (hm : ¬ F m) (hr : ¬ F r) : RangeOf P tk w' m r n f seen cnt := by
 obtain ⟨l1, l2, l3⟩ := h.lt
 obtain ⟨a, b, D, left, ⟨es, clock, since, sn, c0, e1, e2, e3, e4, e5, e6⟩, d⟩ := h
 exact ⟨a, b, D, left, ⟨es, clock, since, sn, c0, (hb.block m l2 hm).trans e1, e2, e3, e4, (hb.block r l1 hr).trans e5, e6⟩, d⟩
section
variable {ops : Array Oper} {rest : List Oper} {o : Oper} {a : Act} {Q : Exit → Act → World → Prop}
theorem wpList_range_of (w : World) (hg : o.guard = none) (mo : Operand) (hop : o.op = Op.range tm mo) (hk : P.underlying tk = some (.int .i64)) (ht : P.underlying tm = some (.map tk te))
  (hm : a.eval mo = .map (some m)) (h : MapOf P tk w m n f)
  (hK : ∀ w', RangeOf P tk w' m w.heap.size n f [] n → w.grownBy w' none → w'.heap.size = w.heap.size + 1 → wpList P ops Q rest (a.put o.dst (.pointer (some ⟨w.heap.size, 0, none⟩))) w') :
  wpList P ops Q (o :: rest) a w := by
 obtain ⟨D, h1, h2, h3⟩ := h
 refine wpList_range_own w hg mo tm hop tk te (Maps.int_keyed hk) ht asIs m n D hm h1 fun w' hr hgr hs => hK w' ⟨List.nodup_nil, by simp, D, _, by rw [h2] at hr; exact hr, h2, h3, fun x hx => by rw [(h3 x hx).2]; simp⟩ hgr hs
theorem wpList_next_of (w : World) (hg : o.guard = none) (it : Operand) (hop : o.op = Op.next it false) (hk : P.underlying tk = some (.int .i64)) (r : Nat) (seen : List Int) (cnt : Nat)
  (hit : a.eval it = .pointer (some ⟨r, 0, none⟩)) (h : RangeOf P tk w m r n f seen cnt)
  (hDone : (∀ x : Int, (Lit.int .i64 x).wf = true → (f x).isSome = true → x ∈ seen) → wpList P ops Q rest (a.put o.dst (.tuple #[.bool false])) w)
  (hMore : ∀ (x : Int) (v : Value) (w' : World) (cnt' : Nat), (Lit.int .i64 x).wf = true → x ∉ seen → f x = some v → RangeOf P tk w' m r n f (seen ++ [x]) cnt' → cnt' < cnt → w.grownBy w' (some r) → w'.heap.size = w.heap.size →
   (Instr.entry (.pointer (some ⟨r, 0, none⟩))).run P w' = .ok (.tuple #[.int .i64 x, v]) w' → wpList P ops Q rest (a.put o.dst (.tuple #[.bool true, .int .i64 x, v])) w') :
  wpList P ops Q (o :: rest) a w := by
 obtain ⟨s1, s2, D, left, h1, h2, h3, h4⟩ := h
 refine wpList_next_ranges w hg it hop tk (Maps.int_keyed hk) asIs (Value.int .i64) id (fun key kl hkey => by obtain ⟨x, rfl, _⟩ := Maps.keyOf_int_inv hk hkey; exact ⟨x, rfl⟩) (fun v y _ => ⟨v, rfl⟩) m r n D left cnt hit h1 ?_ ?_
 ·intro _ hl
  refine hDone fun x hx hf => ?_
  have := h4 x hx
  rw [hl, hf] at this
  simpa using this
 ·intro x v kl y w' cnt' hkey hlk hv hat hr hlt hgr hs hen
  obtain ⟨x', ex, rfl, hwx⟩ := Maps.keyOf_int_inv hk hkey
  cases ex
  have hl := h4 x hwx
  rw [hlk] at hl
  have hl2 : (f x).isSome = true ∧ x ∉ seen := by
   have hl' := hl.symm
   simpa using hl'
  have hfx : f x = some v := by
   have := hat .nil
   rw [(h3 x hwx).1] at this
   unfold asIs at hv
   cases hv
   cases hf : f x with
   | none => rw [hf] at hl2; cases hl2.1
   | some u => rw [hf] at this; simp at this; rw [this]
  refine hMore x v w' cnt' hwx hl2.2 hfx ⟨List.nodup_append.2 ⟨s1, by simp, ?_⟩, ?_, D, _, hr, h2, h3, fun z hz => ?_⟩ hlt hgr hs hen
  ·intro a ha b hb e
   simp at hb
   subst hb; subst e
   exact hl2.2 ha
  ·intro z hz
   rcases List.mem_append.1 hz with hz | hz
   ·exact s2 z hz
   ·simp at hz; subst hz; exact ⟨hwx, hl2.1⟩
  ·simp only [h4 z hz]
   by_cases e : z = x
   ·subst e
    have : (Lit.int .i64 z).sameKey (.int .i64 z) = true := WideAt.sameKey_self (isKeyI _)
    rw [this]
    simp
   ·have : (Lit.int .i64 z).sameKey (.int .i64 x) = false := Maps.sameKey_ne fun h => e (by injection h)
    rw [this]
    simp [e]
end
end
end Go.Proofs.YtgpfmlidchogcaaGreat
