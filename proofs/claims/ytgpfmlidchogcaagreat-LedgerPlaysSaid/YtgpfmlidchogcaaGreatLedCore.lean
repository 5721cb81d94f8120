/- Plain facts for layer 8: holds as a list that rises by ids; what each call of a ledger answers, and leaves. No program is walked. -/
/- A ledger in memory: its pool, its accounts, its map of holds, each hold's slots; its lock. -/
/- A ledger's units: what slots have together. -/
/- A ledger's take and giveBack: the pool and the accounts, both or neither. -/
/- A ledger's giveBack, drop and running. -/
/- A ledger's running: the hold of an id, if it is. -/
import Derived.Test.YtgpfmlidchogcaaGreatPoolZ
import Derived.Test.YtgpfmlidchogcaaGreatQuotaZ
import Derived.Test.YtgpfmlidchogcaaGreatMapOf
import Derived.Test.YtgpfmlidchogcaaGreatLocks
import Derived.Deep.QuietTactic
import Derived.BigQuiet
import Derived.StillTail
import Derived.StillTailTactics
import Derived.Deep.RegionHeld3
import Derived.BigRegion
import Derived.RegionTactic
set_option maxRecDepth 100000
namespace Go.Proofs.YtgpfmlidchogcaaGreat

structure Hd where
 id : Int
 q : Int
 un : Int
 run : Bool
 sl : List PM.Sl
structure SlIn (s : PM.Sl) : Prop where
 ok : SlOk s
 c0 : 0 ≤ s.c
 c1 : s.c ≤ 1024
structure HdOk (h : Hd) : Prop where
 id : (Go.Lit.int .i64 h.id).wf = true
 q : (Go.Lit.int .i64 h.q).wf = true
 un : (Go.Lit.int .i64 h.un).wf = true
 n1 : 1 ≤ h.sl.length
 n2 : h.sl.length ≤ 16
 sl : ∀ s ∈ h.sl, SlIn s
structure LS where
 ts : List Fr
 dr : List Bool
 qs : List Qa
 hs : List Hd
 ver : Nat
namespace LM
def Asc (hs : List Hd) : Prop := hs.Pairwise fun a b => a.id < b.id
def find (x : Int) (hs : List Hd) : Option Hd := hs.find? fun h => h.id == x
def ins (h : Hd) : List Hd → List Hd
 | [] => [h]
 | g :: l => if g.id < h.id then g :: ins h l else h :: g :: l
def del (x : Int) (hs : List Hd) : List Hd := hs.filter fun h => h.id != x
def upd (x : Int) (f : Hd → Hd) (hs : List Hd) : List Hd := hs.map fun h => if h.id = x then f h else h
section
variable {hs : List Hd} {h g : Hd} {x y : Int}
theorem find_some (e : find x hs = some h) : h ∈ hs ∧ h.id = x := by
 unfold find at e
 exact ⟨List.mem_of_find?_eq_some e, by simpa using List.find?_some e⟩
theorem find_none (e : find x hs = none) : ∀ h ∈ hs, h.id ≠ x := by
 unfold find at e
 intro h hh
 simpa using List.find?_eq_none.1 e h hh
theorem find_of (ha : Asc hs) (hh : h ∈ hs) : find h.id hs = some h := by
 induction hs with
 | nil => cases hh
 | cons g l ih =>
  unfold find
  rw [List.find?_cons]
  rcases List.mem_cons.1 hh with rfl | hh
  ·simp
  ·have := (List.pairwise_cons.1 ha).1 h hh
   have ne : (g.id == h.id) = false := by simp; omega
   rw [ne]
   exact ih (List.pairwise_cons.1 ha).2 hh
theorem find_eq (ha : Asc hs) : find x hs = some h ↔ h ∈ hs ∧ h.id = x := ⟨find_some, fun ⟨a, b⟩ => by subst b; exact find_of ha a⟩
theorem asc_inj (ha : Asc hs) (hh : h ∈ hs) (hg : g ∈ hs) (e : h.id = g.id) : h = g := by
 have h1 := find_of ha hh
 rw [e, find_of ha hg] at h1
 cases h1; rfl
theorem mem_ins : g ∈ ins h hs ↔ g = h ∨ g ∈ hs := by
 induction hs with
 | nil => simp [ins]
 | cons a l ih =>
  unfold ins
  split
  ·rw [List.mem_cons, ih, List.mem_cons]
   exact ⟨fun o => by rcases o with e | e | e; exact .inr (.inl e); exact .inl e; exact .inr (.inr e), fun o => by rcases o with e | e | e; exact .inr (.inl e); exact .inl e; exact .inr (.inr e)⟩
  ·rw [List.mem_cons]
theorem len_ins : (ins h hs).length = hs.length + 1 := by
 induction hs with
 | nil => rfl
 | cons a l ih =>
  unfold ins
  split
  ·rw [List.length_cons, ih, List.length_cons]
  ·rfl
theorem asc_ins (ha : Asc hs) (hn : find h.id hs = none) : Asc (ins h hs) := by
 induction hs with
 | nil => exact List.pairwise_singleton _ _
 | cons a l ih =>
  obtain ⟨h1, h2⟩ := List.pairwise_cons.1 ha
  have hne := find_none hn
  have hna := hne a (List.mem_cons_self ..)
  unfold ins
  split
  ·rename_i hlt
   refine List.pairwise_cons.2 ⟨fun b hb => ?_, ih h2 ?_⟩
   ·rcases mem_ins.1 hb with rfl | hb
    ·exact hlt
    ·exact h1 b hb
   ·unfold find
    rw [List.find?_eq_none]
    intro b hb
    simpa using hne b (List.mem_cons_of_mem _ hb)
  ·rename_i hlt
   refine List.pairwise_cons.2 ⟨fun b hb => ?_, ha⟩
   rcases List.mem_cons.1 hb with rfl | hb
   ·omega
   ·have := h1 b hb; omega
theorem find_ins (ha : Asc hs) (hn : find h.id hs = none) : find y (ins h hs) = if y = h.id then some h else find y hs := by
 have ha' := asc_ins ha hn
 by_cases e : y = h.id
 ·rw [if_pos e, find_eq ha']
  exact ⟨mem_ins.2 (.inl rfl), e.symm⟩
 ·rw [if_neg e]
  cases hf : find y hs with
  | none =>
   unfold find
   rw [List.find?_eq_none]
   intro b hb
   rcases mem_ins.1 hb with rfl | hb
   ·simpa using fun e' => e e'.symm
   ·simpa using find_none hf b hb
  | some b =>
   obtain ⟨h1, h2⟩ := find_some hf
   exact (find_eq ha').2 ⟨mem_ins.2 (.inr h1), h2⟩
theorem mem_del : g ∈ del x hs ↔ g ∈ hs ∧ g.id ≠ x := by simp [del]
theorem asc_del (ha : Asc hs) : Asc (del x hs) := ha.filter _
theorem find_del (ha : Asc hs) : find y (del x hs) = if y = x then none else find y hs := by
 by_cases e : y = x
 ·rw [if_pos e]
  unfold find
  rw [List.find?_eq_none]
  intro b hb
  have := (mem_del.1 hb).2
  simpa [e] using this
 ·rw [if_neg e]
  cases hf : find y hs with
  | none =>
   unfold find
   rw [List.find?_eq_none]
   intro b hb
   simpa using find_none hf b (mem_del.1 hb).1
  | some b =>
   obtain ⟨h1, h2⟩ := find_some hf
   exact (find_eq (asc_del ha)).2 ⟨mem_del.2 ⟨h1, by rw [h2]; exact e⟩, h2⟩
theorem len_del (ha : Asc hs) (hf : find x hs = some h) : (del x hs).length + 1 = hs.length := by
 induction hs with
 | nil => cases hf
 | cons a l ih =>
  obtain ⟨h1, h2⟩ := List.pairwise_cons.1 ha
  unfold find at hf
  rw [List.find?_cons] at hf
  by_cases e : a.id = x
  ·have hall : del x l = l := by
    unfold del
    rw [List.filter_eq_self]
    intro b hb
    have := h1 b hb
    simp; omega
   have : del x (a :: l) = l := by
    have e2 : del x (a :: l) = del x l := by unfold del; rw [List.filter_cons]; simp [e]
    rw [e2, hall]
   rw [this]; rfl
  ·have e1 : (a.id == x) = false := by simpa using e
   rw [e1] at hf
   have e2 : del x (a :: l) = a :: del x l := by unfold del; rw [List.filter_cons]; simp [e]
   rw [e2, List.length_cons, List.length_cons, ih h2 hf]
theorem len_del_le : (del x hs).length ≤ hs.length := List.length_filter_le _ _
theorem mem_upd {f : Hd → Hd} : g ∈ upd x f hs ↔ ∃ h ∈ hs, (if h.id = x then f h else h) = g := by simp [upd]
theorem upd_len {f : Hd → Hd} : (upd x f hs).length = hs.length := by simp [upd]
end

/-! ### Units -/
def units (l : List PM.Sl) : Un := ⟨((l.map fun s => MM.cnt s.m).sum : Nat), (l.map (·.c)).sum⟩
theorem units_nil : units [] = ⟨0, 0⟩ := rfl
theorem units_cons (s : PM.Sl) (l : List PM.Sl) : units (s :: l) = ⟨(MM.cnt s.m : Nat) + (units l).g, s.c + (units l).c⟩ := by simp [units]
theorem units_append (l l' : List PM.Sl) : units (l ++ l') = addU (units l) (units l') := by simp [units, addU]
theorem units_next {l : List PM.Sl} {k : Nat} {s : PM.Sl} (h : l[k]? = some s) : units (l.take (k + 1)) = ⟨(units (l.take k)).g + (MM.cnt s.m : Nat), (units (l.take k)).c + s.c⟩ := by
 rw [take_next h, units_append, units_cons, units_nil]; simp [addU]
theorem units_le : ∀ {l : List PM.Sl}, (∀ s ∈ l, SlIn s) → 0 ≤ (units l).g ∧ (units l).g ≤ 64 * (l.length : Int) ∧ 0 ≤ (units l).c ∧ (units l).c ≤ 1024 * (l.length : Int)
 | [], _ => by simp [units_nil]
 | s :: l, h => by
  have ih := units_le (l := l) fun x hx => h x (List.mem_cons_of_mem _ hx)
  have hs := h s (List.mem_cons_self ..)
  have h1 := MM.cnt_le s.m
  have h2 := hs.c0
  have h3 := hs.c1
  rw [units_cons, List.length_cons]
  refine ⟨?_, ?_, ?_, ?_⟩ <;> dsimp only <;> omega
theorem units_may {l : List PM.Sl} (h : ∀ s ∈ l, SlIn s) (hn : l.length ≤ 16) : mayU (units l) = true := by
 have := units_le h
 rw [mayU_iff]
 omega

/-! ### What is taken is of what there is -/
theorem one_in {fs : List Fr} {dr : List Bool} {n : Nat} {s : PM.Sl} {ts ts' : List Fr} (hf : FsOk fs n) (hi : PM.Inv fs ts) (e : PM.one fs dr false s ts = (0, ts')) : 0 ≤ s.c ∧ s.c ≤ 1024 := by
 obtain ⟨k, f, t, ht, _⟩ := PM.takes hi e
 have h1 := ht.c0
 have h2 := ht.room
 have h3 := (hf.ok f (List.mem_of_getElem? ht.hf)).2
 omega
theorem many_in {fs : List Fr} {dr : List Bool} {n : Nat} (hf : FsOk fs n) : ∀ {l : List PM.Sl} {ts ts' : List Fr}, PM.Inv fs ts → PM.many fs dr false l ts = (0, ts') → ∀ s ∈ l, 0 ≤ s.c ∧ s.c ≤ 1024
 | [], _, _, _, _ => by simp
 | s :: l, ts, ts', hi, e => by
  obtain ⟨ts1, e1, e2⟩ := PM.many_ok e
  have h1 : PM.Inv fs ts1 := by have := PM.one_inv (dr := dr) (give := false) (s := s) hi; rw [e1] at this; exact this
  intro x hx
  rcases List.mem_cons.1 hx with rfl | hx
  ·exact one_in hf hi e1
  ·exact many_in hf h1 e2 x hx
theorem whole_in {fs : List Fr} {dr : List Bool} {n : Nat} (hf : FsOk fs n) {l : List PM.Sl} {ts : List Fr} (hi : PM.Inv fs ts) (hl : ∀ s ∈ l, SlOk s) (e : (PM.whole fs dr false l ts).1 = 0) : ∀ s ∈ l, SlIn s := by
 have e2 : PM.whole fs dr false l ts = (0, (PM.whole fs dr false l ts).2) := Prod.ext e rfl
 have := many_in hf hi (PM.many_of_whole e2)
 exact fun s hs => ⟨hl s hs, (this s hs).1, (this s hs).2⟩
theorem whole_back {fs : List Fr} {dr : List Bool} {l : List PM.Sl} {ts : List Fr} (hi : PM.Inv fs ts) (e : (PM.whole fs dr false l ts).1 = 0) : PM.whole fs dr true l (PM.whole fs dr false l ts).2 = (0, ts) := by
 have e2 : PM.whole fs dr false l ts = (0, (PM.whole fs dr false l ts).2) := Prod.ext e rfl
 exact PM.whole_of_many (PM.take_give_many hi (PM.many_of_whole e2))

/-! ### Calls -/
def take (fs : List Fr) (st : LS) (q : Int) (sl : List PM.Sl) : Int × LS :=
 if (PM.whole fs st.dr false sl st.ts).1 ≠ 0 then ((PM.whole fs st.dr false sl st.ts).1, st)
 else if (qAdd st.qs q (units sl)).1 ≠ 0 then ((qAdd st.qs q (units sl)).1, st)
 else (0, { st with ts := (PM.whole fs st.dr false sl st.ts).2, qs := (qAdd st.qs q (units sl)).2 })
def give (fs : List Fr) (st : LS) (q : Int) (sl : List PM.Sl) : LS :=
 { st with ts := (PM.whole fs st.dr true sl st.ts).2, qs := (qSub st.qs q (units sl)).2 }
def letGo (fs : List Fr) (st : LS) (h : Hd) : LS := { give fs st h.q h.sl with hs := del h.id st.hs }
def allGo (fs : List Fr) (st : LS) (p : Hd → Bool) : LS := (st.hs.filter p).foldl (letGo fs) st
def idsOf (st : LS) (p : Hd → Bool) : List Int := (st.hs.filter p).map (·.id)
def up (st : LS) : LS := { st with ver := st.ver + 1 }
def reserve (fs : List Fr) (st : LS) (id q un ver : Int) (sl : List PM.Sl) : Int × LS :=
 if ver ≠ st.ver then (13, st) else if sl.length < 1 ∨ 16 < sl.length then (1, st) else if (find id st.hs).isSome = true then (4, st) else if hasQ st.qs q = false then (3, st)
 else if (take fs st q sl).1 ≠ 0 then ((take fs st q sl).1, st)
 else (0, up { (take fs st q sl).2 with hs := ins ⟨id, q, un, false, sl⟩ st.hs })
def commit (st : LS) (id now un : Int) : Int × LS :=
 match find id st.hs with
 | none => (3, st)
 | some h => if h.run = true then (8, st) else if h.un < now then (9, st) else (0, up { st with hs := upd id (fun h => { h with run := true, un := un }) st.hs })
def grow (fs : List Fr) (st : LS) (id : Int) (s : PM.Sl) : Int × LS :=
 match find id st.hs with
 | none => (3, st)
 | some h => if h.run = false then (8, st) else if 16 ≤ h.sl.length then (2, st) else if (take fs st h.q [s]).1 ≠ 0 then ((take fs st h.q [s]).1, st)
  else (0, up { (take fs st h.q [s]).2 with hs := upd id (fun h => { h with sl := h.sl ++ [s] }) st.hs })
def noSl : PM.Sl := ⟨0, 0, 0, 0⟩
def noHd : Hd := ⟨0, 0, 0, false, []⟩
def shrink (fs : List Fr) (st : LS) (id : Int) : (PM.Sl × Int) × LS :=
 match find id st.hs with
 | none => ((noSl, 3), st)
 | some h => if h.run = false then ((noSl, 8), st) else match h.sl.getLast? with
  | none => ((noSl, 8), st)
  | some s => if h.sl.length ≤ 1 then ((noSl, 8), st) else ((s, 0), up { give fs st h.q [s] with hs := upd id (fun h => { h with sl := h.sl.dropLast }) st.hs })
def release (fs : List Fr) (st : LS) (id : Int) : (Hd × Int) × LS :=
 match find id st.hs with
 | none => ((noHd, 3), st)
 | some h => ((h, 0), up (letGo fs st h))
def late (now : Int) (h : Hd) : Bool := !h.run && decide (h.un < now)
def expire (fs : List Fr) (st : LS) (now : Int) : List Int × LS :=
 (idsOf st (late now), if idsOf st (late now) = [] then st else up (allGo fs st (late now)))
def on (node : Int) (h : Hd) : Bool := h.sl.any fun s => decide (s.n = node)
def drain (fs : List Fr) (st : LS) (node : Int) : (List Int × Int) × LS :=
 if (turn st.dr node true).1 ≠ 0 then (([], (turn st.dr node true).1), st)
 else ((idsOf st (on node), 0), allGo fs (up { st with dr := (turn st.dr node true).2 }) (on node))
def undrain (st : LS) (node : Int) : Int × LS :=
 if (turn st.dr node false).1 ≠ 0 then ((turn st.dr node false).1, st) else (0, up { st with dr := (turn st.dr node false).2 })
end LM
structure LOk (st : LS) : Prop where
 asc : LM.Asc st.hs
 ok : ∀ h ∈ st.hs, HdOk h
 q : ∀ h ∈ st.hs, hasQ st.qs h.q = true
 few : st.hs.length ≤ st.ver
end Go.Proofs.YtgpfmlidchogcaaGreat

set_option maxRecDepth 100000
set_option linter.unusedVariables false
namespace Go.Proofs.YtgpfmlidchogcaaGreat
open Go.RowKit Go.MuLone

/-! ### A pool, an account, as objects: F are their blocks -/
def PObj (w : World) (p : Nat) (F : Nat → Prop) (fs ts : List Fr) (dr : List Bool) : Prop := ∃ T g dm, PoolAt w T p g dm fs ts dr ∧ F = fun i => T i ∨ i = p ∨ i = g ∨ i = dm
def QObj (w : World) (p : Nat) (F : Nat → Prop) (l : List Qa) : Prop := ∃ g c, QAt w p g c l ∧ F = fun i => i = p ∨ i = g
section
variable {w w' : World} {p : Nat} {F G : Nat → Prop} {fs ts : List Fr} {dr : List Bool} {l : List Qa}
theorem PObj.off (h : PObj w p F fs ts dr) (hs : w.heap.size ≤ w'.heap.size) (hk : ∀ i, i < w.heap.size → F i → w'.heap[i]? = w.heap[i]?) : PObj w' p F fs ts dr := by
 obtain ⟨T, g, dm, h1, rfl⟩ := h
 exact ⟨T, g, dm, h1.off hs hk, rfl⟩
theorem PObj.keep (h : PObj w p F fs ts dr) (hk : Below w.heap.size w w') : PObj w' p F fs ts dr := h.off hk.size fun i hi _ => hk.block i hi
theorem PObj.foot (h : PObj w p F fs ts dr) (hk : Foot G w w') (hG : ∀ i, F i → ¬ G i) : PObj w' p F fs ts dr := h.off hk.size fun i hi hf => hk.block i hi (hG i hf)
theorem PObj.lt (h : PObj w p F fs ts dr) : p < w.heap.size ∧ F p ∧ ∀ i, F i → i < w.heap.size := by
 obtain ⟨T, g, dm, h1, rfl⟩ := h
 refine ⟨h1.lt.1, .inr (.inl rfl), fun i hi => ?_⟩
 rcases hi with hi | rfl | rfl | rfl
 ·exact h1.old i hi
 ·exact h1.lt.1
 ·exact h1.lt.2.1
 ·exact h1.lt.2.2
theorem PObj.ok (h : PObj w p F fs ts dr) : FsOk fs dr.length ∧ PM.Inv fs ts := by
 obtain ⟨T, g, dm, h1, rfl⟩ := h
 exact ⟨h1.ok, h1.inv⟩
theorem QObj.off (h : QObj w p F l) (hs : w.heap.size ≤ w'.heap.size) (hk : ∀ i, i < w.heap.size → F i → w'.heap[i]? = w.heap[i]?) : QObj w' p F l := by
 obtain ⟨g, c, h1, rfl⟩ := h
 obtain ⟨cur, r1, r2⟩ := h1.row
 exact ⟨g, c, ⟨h1.few, h1.ok, (hk p (blk_lt h1.obj) (.inl rfl)).trans h1.obj, ⟨cur, (hk g (blk_lt r1) (.inr rfl)).trans r1, r2⟩⟩, rfl⟩
theorem QObj.keep (h : QObj w p F l) (hk : Below w.heap.size w w') : QObj w' p F l := h.off hk.size fun i hi _ => hk.block i hi
theorem QObj.foot (h : QObj w p F l) (hk : Foot G w w') (hG : ∀ i, F i → ¬ G i) : QObj w' p F l := h.off hk.size fun i hi hf => hk.block i hi (hG i hf)
theorem QObj.lt (h : QObj w p F l) : p < w.heap.size ∧ F p ∧ ∀ i, F i → i < w.heap.size := by
 obtain ⟨g, c, h1, rfl⟩ := h
 obtain ⟨cur, r1, r2⟩ := h1.row
 refine ⟨blk_lt h1.obj, .inl rfl, fun i hi => ?_⟩
 rcases hi with rfl | rfl
 ·exact blk_lt h1.obj
 ·exact blk_lt r1
theorem PObj.take (A : Option Addr) (cap : Nat) (sl : List PM.Sl) (h : PObj w p F fs ts dr) (hs : ∀ s ∈ sl, SlOk s) (hl : Slots w w.heap.size A sl) (hA : sl ≠ [] → Off A F) (hn : sl.length ≤ maxLen) :
  Calls Tryz.prog 93 #[.pointer (some ⟨p, 0, none⟩), .slice A sl.length cap] w fun e w' =>
   e = .returned (.int .i64 (PM.whole fs dr false sl ts).1) ∧ ∃ F', PObj w' p F' fs (PM.whole fs dr false sl ts).2 dr ∧ Foot F w w' ∧ ∀ i, F' i → F i ∨ w.heap.size ≤ i := by
 obtain ⟨T, g, dm, h1, rfl⟩ := h
 refine (take_any p g dm fs ts dr A cap sl w h1 hs hl (fun hne b off e hb => hA hne b off e (.inr (.inr (.inl hb)))) hn).mono fun e w' ⟨he, g', hp, hf, hg⟩ => ⟨he, _, ⟨T, g', dm, hp, rfl⟩, hf.mono ?_, ?_⟩
 ·rintro i (hi | hi)
  ·exact .inr (.inl hi)
  ·exact .inr (.inr (.inl hi))
 ·rintro i (hi | hi | hi | hi)
  ·exact .inl (.inl hi)
  ·exact .inl (.inr (.inl hi))
  ·rcases hg with e | e
   ·exact .inl (.inr (.inr (.inl (hi.trans e))))
   ·exact .inr (by omega)
  ·exact .inl (.inr (.inr (.inr hi)))
theorem PObj.give (A : Option Addr) (cap : Nat) (sl : List PM.Sl) (h : PObj w p F fs ts dr) (hs : ∀ s ∈ sl, SlOk s) (hl : Slots w w.heap.size A sl) (hA : sl ≠ [] → Off A F) (hn : sl.length ≤ maxLen) :
  Calls Tryz.prog 96 #[.pointer (some ⟨p, 0, none⟩), .slice A sl.length cap] w fun e w' =>
   e = .returned (.int .i64 (PM.whole fs dr true sl ts).1) ∧ ∃ F', PObj w' p F' fs (PM.whole fs dr true sl ts).2 dr ∧ Foot F w w' ∧ ∀ i, F' i → F i ∨ w.heap.size ≤ i := by
 obtain ⟨T, g, dm, h1, rfl⟩ := h
 refine (give_any p g dm fs ts dr A cap sl w h1 hs hl (fun hne b off e hb => hA hne b off e (.inr (.inr (.inl hb)))) hn).mono fun e w' ⟨he, g', hp, hf, hg⟩ => ⟨he, _, ⟨T, g', dm, hp, rfl⟩, hf.mono ?_, ?_⟩
 ·rintro i (hi | hi)
  ·exact .inr (.inl hi)
  ·exact .inr (.inr (.inl hi))
 ·rintro i (hi | hi | hi | hi)
  ·exact .inl (.inl hi)
  ·exact .inl (.inr (.inl hi))
  ·rcases hg with e | e
   ·exact .inl (.inr (.inr (.inl (hi.trans e))))
   ·exact .inr (by omega)
  ·exact .inl (.inr (.inr (.inr hi)))
theorem PObj.drain (x : Int) (h : PObj w p F fs ts dr) (hx : (Lit.int .i64 x).wf = true) :
  Calls Tryz.prog 69 #[.pointer (some ⟨p, 0, none⟩), .int .i64 x] w fun e w' => e = .returned (.int .i64 (turn dr x true).1) ∧ PObj w' p F fs ts (turn dr x true).2 ∧ Foot F w w' := by
 obtain ⟨T, g, dm, h1, rfl⟩ := h
 exact (drain_any p g dm fs ts dr x w h1 hx).mono fun e w' ⟨he, hp, hf⟩ => ⟨he, ⟨T, g, dm, hp, rfl⟩, hf.mono fun i hi => .inr (.inr (.inr hi))⟩
theorem PObj.undrain (x : Int) (h : PObj w p F fs ts dr) (hx : (Lit.int .i64 x).wf = true) :
  Calls Tryz.prog 73 #[.pointer (some ⟨p, 0, none⟩), .int .i64 x] w fun e w' => e = .returned (.int .i64 (turn dr x false).1) ∧ PObj w' p F fs ts (turn dr x false).2 ∧ Foot F w w' := by
 obtain ⟨T, g, dm, h1, rfl⟩ := h
 exact (undrain_any p g dm fs ts dr x w h1 hx).mono fun e w' ⟨he, hp, hf⟩ => ⟨he, ⟨T, g, dm, hp, rfl⟩, hf.mono fun i hi => .inr (.inr (.inr hi))⟩
theorem QObj.add (q : Int) (u : Un) (h : QObj w p F l) :
  Calls Tryz.prog 94 #[.pointer (some ⟨p, 0, none⟩), .int .i64 q, unV u] w fun e w' => e = .returned (.int .i64 (qAdd l q u).1) ∧ QObj w' p F (qAdd l q u).2 ∧ Foot F w w' := by
 obtain ⟨g, c, h1, rfl⟩ := h
 exact (add_q p g c l q u w h1).mono fun e w' ⟨he, hp, hf⟩ => ⟨he, ⟨g, c, hp, rfl⟩, hf.mono fun i hi => .inr hi⟩
theorem QObj.sub (q : Int) (u : Un) (h : QObj w p F l) :
  Calls Tryz.prog 106 #[.pointer (some ⟨p, 0, none⟩), .int .i64 q, unV u] w fun e w' => e = .returned (.int .i64 (qSub l q u).1) ∧ QObj w' p F (qSub l q u).2 ∧ Foot F w w' := by
 obtain ⟨g, c, h1, rfl⟩ := h
 exact (sub_q p g c l q u w h1).mono fun e w' ⟨he, hp, hf⟩ => ⟨he, ⟨g, c, hp, rfl⟩, hf.mono fun i hi => .inr hi⟩
end

/-! ### A ledger -/
def hdV (h : Hd) (v : Value) : Value := .agg #[.int .i64 h.id, .int .i64 h.q, .int .i64 h.un, .bool h.run, v]
def ledB (lk : Int) (pp pa hm n ver : Nat) : Obj := .cells #[.int .i32 lk, .int .u32 0, .pointer (some ⟨pp, 0, none⟩), .pointer (some ⟨pa, 0, none⟩), .map (some hm), .int .i64 (n : Nat), .int .i64 (ver : Nat)] 79 (0, 0)
def hView (hs : List Hd) (V : Int → Value) (x : Int) : Option Value := (LM.find x hs).map fun h => hdV h (V h.id)
abbrev hMap (w : World) (m n : Nat) (f : Int → Option Value) : Prop := MapOf Tryz.prog 3 w m n f
theorem hKey : Tryz.prog.underlying 3 = some (.int .i64) := Tryz.underlying3
theorem hTy : Tryz.prog.underlying 70 = some (.map 3 44) := Tryz.underlying70
def hdZ : Value := .agg #[.int .i64 0, .int .i64 0, .int .i64 0, .bool false, .slice none 0 0]
theorem zeroHold (w : World) : (zeroValue 44).run Tryz.prog w = .ok hdZ w := by kernel_rfl
structure LAt (w : World) (lk : Int) (p pp pa hm : Nat) (FP FQ : Nat → Prop) (V : Int → Value) (fs : List Fr) (st : LS) : Prop where
 ok : LOk st
 obj : w.heap[p]? = some (ledB lk pp pa hm st.dr.length st.ver)
 pool : PObj w pp FP fs st.ts st.dr
 acc : QObj w pa FQ st.qs
 map : hMap w hm st.hs.length (hView st.hs V)
 rows : ∀ h ∈ st.hs, w.ownsRow 0 41 4 (V h.id) h.sl.length (h.sl.flatMap slC)
 ap1 : ∀ i, FP i → ¬ FQ i ∧ i ≠ p ∧ i ≠ hm
 ap2 : ∀ i, FQ i → i ≠ p ∧ i ≠ hm
 av : ∀ h ∈ st.hs, ∀ i, (V h.id).ownBlock = some i → ¬ FP i ∧ ¬ FQ i ∧ i ≠ p ∧ i ≠ hm
 avv : ∀ h ∈ st.hs, ∀ g ∈ st.hs, h.id ≠ g.id → ∀ i, (V h.id).ownBlock = some i → (V g.id).ownBlock ≠ some i
def LB (p hm : Nat) (FP FQ : Nat → Prop) (V : Int → Value) (st : LS) : Nat → Prop := fun i => i = p ∨ i = hm ∨ FP i ∨ FQ i ∨ ∃ h ∈ st.hs, (V h.id).ownBlock = some i
section
variable {w w' : World} {lk : Int} {p pp pa hm : Nat} {FP FQ G : Nat → Prop} {V : Int → Value} {fs : List Fr} {st : LS}
theorem LAt.lt (h : LAt w lk p pp pa hm FP FQ V fs st) : p < w.heap.size ∧ hm < w.heap.size ∧ p ≠ hm := by
 obtain ⟨es, cl, hmm⟩ := h.map.kind
 refine ⟨blk_lt h.obj, h.map.lt, fun e => ?_⟩
 have := h.obj
 rw [e, hmm] at this; cases this
theorem LAt.all (h : LAt w lk p pp pa hm FP FQ V fs st) : ∀ i, LB p hm FP FQ V st i → i < w.heap.size := by
 rintro i (rfl | rfl | hi | hi | ⟨g, hg, hi⟩)
 ·exact h.lt.1
 ·exact h.lt.2.1
 ·exact h.pool.lt.2.2 i hi
 ·exact h.acc.lt.2.2 i hi
 ·exact ((h.rows g hg).lt i hi).2
theorem LAt.off (h : LAt w lk p pp pa hm FP FQ V fs st) (hs : w.heap.size ≤ w'.heap.size) (hk : ∀ i, i < w.heap.size → LB p hm FP FQ V st i → w'.heap[i]? = w.heap[i]?) : LAt w' lk p pp pa hm FP FQ V fs st :=
 ⟨h.ok, (hk p h.lt.1 (.inl rfl)).trans h.obj, h.pool.off hs fun i hi hf => hk i hi (.inr (.inr (.inl hf))), h.acc.off hs fun i hi hf => hk i hi (.inr (.inr (.inr (.inl hf)))),
  h.map.of_block (hk hm h.lt.2.1 (.inr (.inl rfl))), fun g hg => own_stays (h.rows g hg) fun i hi => hk i ((h.rows g hg).lt i hi).2 (.inr (.inr (.inr (.inr ⟨g, hg, hi⟩)))), h.ap1, h.ap2, h.av, h.avv⟩
theorem LAt.keep (h : LAt w lk p pp pa hm FP FQ V fs st) (hk : Below w.heap.size w w') : LAt w' lk p pp pa hm FP FQ V fs st := h.off hk.size fun i hi _ => hk.block i hi
theorem LAt.foot (h : LAt w lk p pp pa hm FP FQ V fs st) (hk : Foot G w w') (hG : ∀ i, LB p hm FP FQ V st i → ¬ G i) : LAt w' lk p pp pa hm FP FQ V fs st := h.off hk.size fun i hi hf => hk.block i hi (hG i hf)
theorem LAt.cells (h : LAt w lk p pp pa hm FP FQ V fs st) : w.cell? ⟨p, 0, none⟩ = some (.int .i32 lk) ∧ w.frozen? ⟨p, 0, none⟩ = false ∧ w.cell? ⟨p, 2, none⟩ = some (.pointer (some ⟨pp, 0, none⟩)) ∧ w.cell? ⟨p, 3, none⟩ = some (.pointer (some ⟨pa, 0, none⟩)) ∧
  w.cell? ⟨p, 4, none⟩ = some (.map (some hm)) ∧ w.cell? ⟨p, 5, none⟩ = some (.int .i64 (st.dr.length : Nat)) ∧ w.cell? ⟨p, 6, none⟩ = some (.int .i64 (st.ver : Nat)) ∧ w.frozen? ⟨p, 6, none⟩ = false :=
 ⟨cell_blk (i := 0) h.obj rfl, frozen_blk h.obj, cell_blk (i := 2) h.obj rfl, cell_blk (i := 3) h.obj rfl, cell_blk (i := 4) h.obj rfl, cell_blk (i := 5) h.obj rfl, cell_blk (i := 6) h.obj rfl, frozen_blk h.obj⟩
theorem foot_set (w : World) (p k : Nat) (u : Value) : Foot (· = p) w (w.setCell ⟨p, k, none⟩ u) := Foot.setCell (F := (· = p)) (p := ⟨p, k, none⟩) (Foot.refl _ w) (.inl rfl) u
theorem LAt.ne (h : LAt w lk p pp pa hm FP FQ V fs st) : ∀ i, (i = hm ∨ FP i ∨ FQ i ∨ ∃ g ∈ st.hs, (V g.id).ownBlock = some i) → i ≠ p := by
 rintro i (rfl | hi | hi | ⟨g, hg, hi⟩)
 ·exact fun e => h.lt.2.2 e.symm
 ·exact (h.ap1 i hi).2.1
 ·exact (h.ap2 i hi).1
 ·exact (h.av g hg i hi).2.2.1
theorem LAt.obj_set {lk' : Int} {ver' : Nat} (h : LAt w lk p pp pa hm FP FQ V fs st) (hf : Foot (· = p) w w') (ho : w'.heap[p]? = some (ledB lk' pp pa hm st.dr.length ver')) (hv : st.ver ≤ ver') : LAt w' lk' p pp pa hm FP FQ V fs { st with ver := ver' } :=
 have hk : ∀ i, i < w.heap.size → (i = hm ∨ FP i ∨ FQ i ∨ ∃ g ∈ st.hs, (V g.id).ownBlock = some i) → w'.heap[i]? = w.heap[i]? := fun i hi ho => hf.block i hi (h.ne i ho)
 ⟨⟨h.ok.asc, h.ok.ok, h.ok.q, Nat.le_trans h.ok.few hv⟩, ho, h.pool.off hf.size fun i hi e => hk i hi (.inr (.inl e)), h.acc.off hf.size fun i hi e => hk i hi (.inr (.inr (.inl e))),
  h.map.of_block (hk hm h.lt.2.1 (.inl rfl)), fun g hg => own_stays (h.rows g hg) fun i hi => hk i ((h.rows g hg).lt i hi).2 (.inr (.inr (.inr ⟨g, hg, hi⟩))), h.ap1, h.ap2, h.av, h.avv⟩
theorem LAt.lock (lk' : Int) (h : LAt w lk p pp pa hm FP FQ V fs st) : LAt (w.setCell ⟨p, 0, none⟩ (.int .i32 lk')) lk' p pp pa hm FP FQ V fs st :=
 h.obj_set (foot_set w p 0 _) (blk_put (.int .i32 lk') h.obj) (Nat.le_refl _)
theorem LAt.bump (h : LAt w lk p pp pa hm FP FQ V fs st) : LAt (w.setCell ⟨p, 6, none⟩ (.int .i64 ((st.ver : Int) + 1))) lk p pp pa hm FP FQ V fs (LM.up st) :=
 h.obj_set (foot_set w p 6 _) (by have := blk_put (i := 6) (.int .i64 ((st.ver : Int) + 1)) h.obj; rw [this]; simp [ledB]) (Nat.le_succ _)
theorem LAt.pooled {FP' : Nat → Prop} {ts : List Fr} {dr : List Bool} (h : LAt w lk p pp pa hm FP FQ V fs st) (hp : PObj w' pp FP' fs ts dr) (hd : dr.length = st.dr.length) (hf : Foot FP w w') (hy : ∀ i, FP' i → FP i ∨ w.heap.size ≤ i) : LAt w' lk p pp pa hm FP' FQ V fs { st with ts := ts, dr := dr } := by
 have hlt := h.all
 have hk : ∀ i, i < w.heap.size → ¬ FP i → w'.heap[i]? = w.heap[i]? := fun i hi ho => hf.block i hi ho
 have ap : ∀ i, LB p hm (fun _ => False) FQ V st i → i < w.heap.size ∧ ¬ FP i := fun i hi => by
  rcases hi with rfl | rfl | hi | hi | ⟨g, hg, hi⟩
  ·exact ⟨h.lt.1, fun e => (h.ap1 _ e).2.1 rfl⟩
  ·exact ⟨h.lt.2.1, fun e => (h.ap1 _ e).2.2 rfl⟩
  ·exact hi.elim
  ·exact ⟨h.acc.lt.2.2 i hi, fun e => (h.ap1 _ e).1 hi⟩
  ·exact ⟨((h.rows g hg).lt i hi).2, (h.av g hg i hi).1⟩
 refine ⟨⟨h.ok.asc, h.ok.ok, h.ok.q, h.ok.few⟩, ?_, hp, h.acc.off hf.size fun i hi e => hk i hi (ap i (.inr (.inr (.inr (.inl e))))).2, h.map.of_block (hk hm h.lt.2.1 (ap hm (.inr (.inl rfl))).2),
  fun g hg => own_stays (h.rows g hg) fun i hi => hk i ((h.rows g hg).lt i hi).2 (ap i (.inr (.inr (.inr (.inr ⟨g, hg, hi⟩))))).2, fun i hi => ?_, h.ap2, fun g hg i hi => ?_, h.avv⟩
 ·rw [hk p h.lt.1 (ap p (.inl rfl)).2, h.obj]
  simp only [hd]
 ·rcases hy i hi with e | e
  ·exact h.ap1 i e
  ·refine ⟨fun e2 => ?_, fun e2 => ?_, fun e2 => ?_⟩
   ·have := h.acc.lt.2.2 i e2; omega
   ·have := h.lt.1; omega
   ·have := h.lt.2.1; omega
 ·obtain ⟨a1, a2, a3⟩ := h.av g hg i hi
  refine ⟨fun e => ?_, a2, a3⟩
  rcases hy i e with e | e
  ·exact a1 e
  ·have := ((h.rows g hg).lt i hi).2; omega
theorem LAt.counted {qs : List Qa} (h : LAt w lk p pp pa hm FP FQ V fs st) (hq : QObj w' pa FQ qs) (hl : qs.length = st.qs.length) (hf : Foot FQ w w') : LAt w' lk p pp pa hm FP FQ V fs { st with qs := qs } := by
 have hk : ∀ i, i < w.heap.size → ¬ FQ i → w'.heap[i]? = w.heap[i]? := fun i hi ho => hf.block i hi ho
 refine ⟨⟨h.ok.asc, h.ok.ok, fun g hg => ?_, h.ok.few⟩, (hk p h.lt.1 fun e => (h.ap2 p e).1 rfl).trans h.obj, h.pool.off hf.size fun i hi e => hk i hi (h.ap1 i e).1, hq, h.map.of_block (hk hm h.lt.2.1 fun e => (h.ap2 hm e).2 rfl),
  fun g hg => own_stays (h.rows g hg) fun i hi => hk i ((h.rows g hg).lt i hi).2 (h.av g hg i hi).2.1, h.ap1, h.ap2, h.av, h.avv⟩
 have := h.ok.q g hg
 unfold hasQ at this ⊢
 rw [hl]; exact this
end
theorem qAdd_len (l : List Qa) (q : Int) (u : Un) : (qAdd l q u).2.length = l.length := by
 have := congrArg List.length (qAdd_m l q u)
 simpa using this
theorem qSub_len (l : List Qa) (q : Int) (u : Un) : (qSub l q u).2.length = l.length := by
 have := congrArg List.length (qSub_m l q u)
 simpa using this
end Go.Proofs.YtgpfmlidchogcaaGreat

set_option maxRecDepth 100000
set_option linter.unusedVariables false
namespace Go.Proofs.YtgpfmlidchogcaaGreat
open Go.RowKit

set_option maxHeartbeats 4000000 in
theorem units_l (A : Option Addr) (c : Nat) (l : List PM.Sl) (w : World) (hl : Slots w w.heap.size A l) (hs : ∀ s ∈ l, SlIn s) (hn : l.length ≤ 16) :
  Calls Tryz.prog 95 #[.slice A l.length c] w fun e w' => e = .returned (unV (LM.units l)) ∧ Below w.heap.size w w' := by
 obtain ⟨n, hnl⟩ : ∃ n, l.length = n := ⟨_, rfl⟩
 rw [hnl] at hn ⊢
 obtain ⟨U, hU⟩ : ∃ U, U = w.heap.size + 1 := ⟨_, rfl⟩
 obtain ⟨w2, hw2⟩ : ∃ w2, w2 = (w.alloc (.cells #[.int .i64 0, .int .i64 0] 57)).alloc (.cells #[.int .i64 0, .int .i64 0] 57) := ⟨_, rfl⟩
 have hB2 : Below w.heap.size w w2 := by rw [hw2]; exact ((Below.refl w.heap.size w).alloc (Nat.le_refl _) _).alloc (by simp) _
 have rR : w2.heap[w.heap.size]? = some (.cells #[.int .i64 0, .int .i64 0] 57 (0, 0)) := by
  rw [hw2]; exact (Below.heap_alloc _ _ _ (by simp)).trans (heap_alloc_new w _)
 have rU : w2.heap[U]? = some (.cells #[.int .i64 0, .int .i64 0] 57 (0, 0)) := by
  rw [hw2, hU]; have := heap_alloc_new (w.alloc (.cells #[.int .i64 0, .int .i64 0] 57)) (.cells #[.int .i64 0, .int .i64 0] 57); simpa using this
 have hUw : w.heap.size < U := by omega
 have RR := Lib.hid rR
 have RU := Lib.hid rU
 have HB2 := Lib.hid hB2
 have Q := Lib.hid (And.intro hl (And.intro hs hnl))
 have HW2 := Lib.hid hw2
 have HU := Lib.hid hU
 clear rR rU hB2 hl hs hnl hw2 hU
 go_enter Tryz.func95, Tryz.ntmps95
 go_wp2
 rw [← HU.out, ← HW2.out]
 go_loopw [8] (fun i wr => ∃ (k : Nat) (G C : Int), i = .int .i64 k ∧ k ≤ n ∧ Below w.heap.size w wr ∧ Hid (G = (LM.units (l.take k)).g) ∧ Hid (C = (LM.units (l.take k)).c) ∧ Hid (wr.heap[w.heap.size]? = some (.cells #[.int .i64 0, .int .i64 0] 57 (0, 0))) ∧ Hid (wr.heap[U]? = some (.cells #[.int .i64 G, .int .i64 C] 57 (0, 0)))) (fun i _ => n - (intOf i).toNat)
 case atStart => exact ⟨0, 0, 0, rfl, by omega, HB2.out, Lib.hid rfl, Lib.hid rfl, RR, RU⟩
 case round =>
  obtain ⟨k, G, C, rfl, hk, hBl, hG, hC, hR, hTt⟩ := hrel
  have hBs := hBl.size
  by_cases hlt : k < n
  ·obtain ⟨hl, hs, hnl⟩ := Q.out
   obtain ⟨f, hx⟩ := get_lt (l := l) (k := k) (by rw [hnl]; exact hlt)
   obtain ⟨b, off, rfl, hb, hall⟩ := hl.at_ hx
   obtain ⟨f0, f1, f2, f3⟩ := (hall k f hx).keep hb hBl
   have t0 : decide (k < n) = true := by simpa using hlt
   have hfs := hs f (List.mem_of_getElem? hx)
   have hq := LM.units_le (l := l.take k) fun y hy => hs y (List.mem_of_mem_take hy)
   rw [List.length_take] at hq
   have bG : 0 ≤ G ∧ G ≤ 64000 := by rw [hG.out]; omega
   have bC : 0 ≤ C ∧ C ≤ 1024000 := by rw [hC.out]; omega
   have gT : U < wr.heap.size := blk_lt hTt.out
   obtain ⟨W, hW⟩ : ∃ W, W = wr.alloc (.cells #[.int .i64 f.n, .int .i64 f.d, .int .u64 (f.m : Nat), .int .i64 f.c] 41) := ⟨_, rfl⟩
   have bT : W.heap[U]? = some (.cells #[.int .i64 G, .int .i64 C] 57 (0, 0)) := by rw [hW]; exact (Below.heap_alloc _ _ _ gT).trans hTt.out
   have bR : W.heap[w.heap.size]? = some (.cells #[.int .i64 0, .int .i64 0] 57 (0, 0)) := by rw [hW]; exact (Below.heap_alloc _ _ _ (by omega)).trans hR.out
   have bF : W.heap[wr.heap.size]? = some (.cells #[.int .i64 f.n, .int .i64 f.d, .int .u64 (f.m : Nat), .int .i64 f.c] 41 (0, 0)) := by rw [hW]; exact heap_alloc_new wr _
   have hBW : Below w.heap.size w W := by rw [hW]; exact hBl.alloc hBs _
   have x0 : W.cell? ⟨U, 0, none⟩ = some (.int .i64 G) := cell_blk (i := 0) bT rfl
   have e2 : W.cell? ⟨wr.heap.size, 2, none⟩ = some (.int .u64 (f.m : Nat)) := cell_blk (i := 2) bF rfl
   have y0 : W.drew.cell? ⟨U, 0, none⟩ = some (.int .i64 G) := cell_blk (i := 0) bT rfl
   have y1 : W.drew.cell? ⟨U, 1, none⟩ = some (.int .i64 C) := cell_blk (i := 1) bT rfl
   have y3 : W.drew.cell? ⟨wr.heap.size, 3, none⟩ = some (.int .i64 f.c) := cell_blk (i := 3) bF rfl
   have z0 : W.drew.frozen? ⟨U, 0, none⟩ = false := frozen_blk (w := W) bT
   have z1 : W.drew.frozen? ⟨U, 1, none⟩ = false := frozen_blk (w := W) bT
   have YR : Hid (W.drew.heap[w.heap.size]? = some (.cells #[.int .i64 0, .int .i64 0] 57 (0, 0))) := Lib.hid bR
   have YT : Hid (W.drew.heap[U]? = some (.cells #[.int .i64 G, .int .i64 C] 57 (0, 0))) := Lib.hid bT
   have hBD := hBW.drew
   have CN := Lib.hid (count_any f.m hfs.ok.m)
   have hcnt := MM.cnt_le f.m
   have NX := Lib.hid (LM.units_next hx)
   have HW := Lib.hid hW
   have fc0 := hfs.c0
   have fc1 := hfs.c1
   clear hx hW bT bR bF hfs hq hall hl hs hnl
   go_wp2_with fail
   rw [← HW.out]
   go_still_tail 7, (by kernel_rfl)
   still_call ((CN.out _).mono fun _ _ h => ⟨h.1, h.2.symm⟩)
   repeat still_step
   refine wpStill_nil ?_
   change wpList _ _ _ _ _ W.drew
   clear x0 e2 hBW HW
   generalize W.drew = W' at y0 y1 y3 z0 z1 YR YT hBD ⊢
   go_wp2
   go_roundw
   case rel =>
    refine ⟨k + 1, G + MM.cnt f.m, C + f.c, by go_num, by omega, (hBD.setCell (by simp; omega) _).setCell (by simp; omega) _, Lib.hid (by rw [NX.out, hG.out]), Lib.hid (by rw [NX.out, hC.out]), Lib.hid ?_, Lib.hid ?_⟩
    ·exact ((Below.heap_setCell _ _ _ _ (by simp; omega)).trans (Below.heap_setCell _ _ _ _ (by simp; omega))).trans YR.out
    ·exact blk_put (i := 1) (.int .i64 (C + f.c)) (blk_put (i := 0) (.int .i64 (G + (MM.cnt f.m : Int))) YT.out)
   case measure => simp [intOf]; omega
  ·obtain rfl : k = n := by omega
   have gT : U < wr.heap.size := blk_lt hTt.out
   obtain ⟨x0, x1⟩ := cells2 hTt.out
   have y0 : wr.cell? ⟨w.heap.size, 0, none⟩ = some (.int .i64 0) := cell_blk (i := 0) hR.out rfl
   have y1 : wr.cell? ⟨w.heap.size, 1, none⟩ = some (.int .i64 0) := cell_blk (i := 1) hR.out rfl
   have z0 : wr.frozen? ⟨w.heap.size, 0, none⟩ = false := frozen_blk hR.out
   have z1 : wr.frozen? ⟨w.heap.size, 1, none⟩ = false := frozen_blk hR.out
   clear hlt
   go_wp2
   refine bodyPost_ret (v := .agg #[.int .i64 G, .int .i64 C]) (by simp [results, Tryz.results95, go_sem, y0, y1]) rfl ?_
   have e : l.take k = l := by rw [← Q.out.2.2]; exact List.take_length
   refine ⟨?_, (hBl.setCell (Nat.le_refl _) _).setCell (Nat.le_refl _) _⟩
   rw [hG.out, hC.out, e]; rfl
end Go.Proofs.YtgpfmlidchogcaaGreat

set_option maxRecDepth 100000
set_option linter.unusedVariables false
namespace Go.Proofs.YtgpfmlidchogcaaGreat
open Go.RowKit

theorem Slots.foot {w w' : World} {A : Option Addr} {l : List PM.Sl} {G : Nat → Prop} (h : Slots w w.heap.size A l) (hk : Foot G w w') (ho : l ≠ [] → Off A G) : Slots w' w'.heap.size A l := by
 rcases h with h | ⟨b, off, rfl, hb, hc⟩
 ·exact .inl h
 ·by_cases e : l = []
  ·exact .inl e
  ·exact .inr ⟨b, off, rfl, Nat.lt_of_lt_of_le hb hk.size, fun i x hx => (hc i x hx).of (hk.block b hb (ho e b off rfl))⟩
theorem Slots.young {w : World} {A : Option Addr} {l : List PM.Sl} {F F' : Nat → Prop} (h : Slots w w.heap.size A l) (ho : l ≠ [] → Off A F) (hy : ∀ i, F' i → F i ∨ w.heap.size ≤ i) : l ≠ [] → Off A F' := fun hne b off e hf => by
 rcases h with h | ⟨b', off', e', hb, _⟩
 ·exact hne h
 ·rw [e] at e'
  cases e'
  rcases hy b hf with e2 | e2
  ·exact ho hne b off e e2
  ·omega
theorem qAdd_err {l : List Qa} {q : Int} {u : Un} (h : (qAdd l q u).1 ≠ 0) : (qAdd l q u).2 = l := by
 unfold qAdd at h ⊢
 split
 ·rfl
 ·split
  ·rfl
  ·split
   ·rfl
   ·split
    ·rfl
    ·simp_all
set_option maxHeartbeats 2000000 in
theorem take_l {w : World} {lk : Int} {p pp pa hm : Nat} {FP FQ : Nat → Prop} {V : Int → Value} {fs : List Fr} {st : LS} (A : Option Addr) (c : Nat) (l : List PM.Sl) (q : Int) (h : LAt w lk p pp pa hm FP FQ V fs st)
  (hs : ∀ s ∈ l, SlOk s) (hl : Slots w w.heap.size A l) (hA : l ≠ [] → Off A FP) (hQ : l ≠ [] → Off A FQ) (hn : l.length ≤ 16) :
  Calls Tryz.prog 52 #[.pointer (some ⟨p, 0, none⟩), .int .i64 q, .slice A l.length c] w fun e w' => e = .returned (.int .i64 (LM.take fs st q l).1) ∧
   ∃ FP', LAt w' lk p pp pa hm FP' FQ V fs (LM.take fs st q l).2 ∧ Foot (fun i => FP i ∨ FQ i) w w' ∧ ∀ i, FP' i → FP i ∨ w.heap.size ≤ i := by
 obtain ⟨c0, z0, c2, c3, _⟩ := h.cells
 obtain ⟨hfo, hinv⟩ := h.pool.ok
 have hT := h.pool.take A c l hs hl hA (by unfold maxLen; omega)
 have H := Lib.hid h
 have HL := Lib.hid (And.intro hl (And.intro hA hQ))
 have lp := h.lt.1
 unfold LM.take
 by_cases e1 : (PM.whole fs st.dr false l st.ts).1 ≠ 0
 ·rw [if_pos e1]
  rw [PM.whole_err e1] at hT
  obtain ⟨R, hR⟩ : ∃ R, R = (PM.whole fs st.dr false l st.ts).1 := ⟨_, rfl⟩
  rw [← hR] at hT e1 ⊢
  have t0 : (R == 0) = false := beq_eq_false_iff_ne.2 e1
  have t1 : (R != 0) = true := by rw [bne_iff_ne]; exact e1
  have HT := Lib.hid hT
  clear hR hT e1 h hl hA hQ hfo hinv
  go_enter Tryz.func52, Tryz.ntmps52
  go_wp2_with (go_at_call 93; refine HT.out.mono ?_; rintro e w1 ⟨rfl, F', hp1, hf1, hy1⟩)
  go_ret
  exact ⟨rfl, F', H.out.pooled hp1 rfl hf1 hy1, hf1.mono fun i hi => .inl hi, hy1⟩
 rw [if_neg e1]
 have e0 : (PM.whole fs st.dr false l st.ts).1 = 0 := Classical.not_not.1 e1
 have hin := LM.whole_in hfo hinv hs e0
 have hback := LM.whole_back hinv e0
 obtain ⟨ts1, hts1⟩ : ∃ ts1, ts1 = (PM.whole fs st.dr false l st.ts).2 := ⟨_, rfl⟩
 rw [e0] at hT
 rw [← hts1] at hT hback ⊢
 have HT := Lib.hid hT
 have HU := Lib.hid (fun W (hW : Slots W W.heap.size A l) => units_l A c l W hW hin hn)
 have HG := Lib.hid (fun W F' (hW : PObj W pp F' fs ts1 st.dr) (hl : Slots W W.heap.size A l) (ho : l ≠ [] → Off A F') => hW.give A c l hs hl ho (by unfold maxLen; omega))
 rw [hback] at HG
 have HAd := Lib.hid (fun W (hW : QObj W pa FQ st.qs) => hW.add q (LM.units l))
 obtain ⟨R3, hR3⟩ : ∃ R3, R3 = qAdd st.qs q (LM.units l) := ⟨_, rfl⟩
 have hqe : R3.1 ≠ 0 → R3.2 = st.qs := fun e => by rw [hR3] at e ⊢; exact qAdd_err e
 have hql : R3.2.length = st.qs.length := by rw [hR3]; exact qAdd_len _ _ _
 rw [← hR3] at HAd ⊢
 obtain ⟨⟨ug, uc⟩, hu⟩ : ∃ u, u = LM.units l := ⟨_, rfl⟩
 rw [← hu] at HU HAd
 simp only [unV] at HU HAd
 have HQ := Lib.hid (And.intro hqe hql)
 clear hT e1 e0 hs h hl hA hQ hfo hinv hin hback hts1 hR3 hu hqe hql
 by_cases e2 : R3.1 ≠ 0
 ·rw [if_pos e2]
  have t0 : (R3.1 == 0) = false := beq_eq_false_iff_ne.2 e2
  have t1 : (R3.1 != 0) = true := by rw [bne_iff_ne]; exact e2
  have E2 := Lib.hid e2
  clear e2
  go_enter Tryz.func52, Tryz.ntmps52
  go_wp2_with (go_at_call 93; refine HT.out.mono ?_; rintro e w1 ⟨rfl, F', hp1, hf1, hy1⟩)
  have hL1 := H.out.pooled hp1 rfl hf1 hy1
  have HL1 := Lib.hid hL1
  have d3 := hL1.cells.2.2.2.1
  have d2 := hL1.cells.2.2.1
  have lp1 := hL1.lt.1
  have HS1 := Lib.hid (HL.out.1.foot hf1 HL.out.2.1)
  have HF1 := Lib.hid (And.intro hf1 hy1)
  clear hL1 hp1 hf1 hy1
  go_region_held3 (fun w' => w'.cell? ⟨p, 3, none⟩ = some (.pointer (some ⟨pa, 0, none⟩)))
   (go_keep)
   (first
    | (go_at_call 95; refine (HU.out _ (Slots.keep HS1.out (Below.refl _ _).drew (Nat.le_refl _))).mono ?_; rintro e w2 ⟨rfl, hb2⟩; have hB2 : Below w1.heap.size w1 w2 := below_step (Below.refl w1.heap.size w1).drew hb2; have v1 := (hB2.cell (p := ⟨p, 3, none⟩) lp1).trans d3; have HB2 := Lib.hid hB2; clear hB2 hb2)
    | (go_at_call 94; refine (HAd.out _ (HL1.out.acc.keep HB2.out)).mono ?_; rintro e w3 ⟨rfl, hq3, hf3⟩; have HL3 := Lib.hid ((HL1.out.keep HB2.out).counted hq3 HQ.out.2 hf3); have v2 := HL3.out.cells.2.2.2.1; have HF3 := Lib.hid (And.intro hq3 hf3); clear hq3 hf3))
  have x2 := HL3.out.cells.2.2.1
  clear v1 v2 d3 d2 c2 c3
  have HS3 := Lib.hid ((Slots.keep HS1.out HB2.out HB2.out.size).foot HF3.out.2 HL.out.2.2)
  go_wp2_with (go_at_call 96; refine (HG.out _ F' HL3.out.pool HS3.out (HL.out.1.young HL.out.2.1 HF1.out.2)).mono ?_; rintro e w4 ⟨rfl, F4, hp4, hf4, hy4⟩)
  go_ret
  have hL4 := HL3.out.pooled hp4 rfl hf4 hy4
  have f12 : Foot (fun i => FP i ∨ FQ i) w w3 := ((HF1.out.1.mono fun i hi => .inl hi).trans ((Foot.of_below (F := FQ) HB2.out).trans HF3.out.2 fun i hi => .inl hi) fun i hi => .inl (.inr hi))
  refine ⟨rfl, F4, ?_, f12.trans hf4 fun i hi => ?_, fun i hi => ?_⟩
  ·have := hL4
   rw [HQ.out.1 E2.out] at this
   exact this
  ·rcases HF1.out.2 i hi with e | e
   ·exact .inl (.inl e)
   ·exact .inr e
  ·rcases hy4 i hi with e | e
   ·exact HF1.out.2 i e
   ·exact .inr (Nat.le_trans f12.size e)
 ·rw [if_neg e2]
  have e3 : R3.1 = 0 := Classical.not_not.1 e2
  rw [e3] at HAd
  clear e2 e3
  go_enter Tryz.func52, Tryz.ntmps52
  go_wp2_with (go_at_call 93; refine HT.out.mono ?_; rintro e w1 ⟨rfl, F', hp1, hf1, hy1⟩)
  have hL1 := H.out.pooled hp1 rfl hf1 hy1
  have HL1 := Lib.hid hL1
  have d3 := hL1.cells.2.2.2.1
  have d2 := hL1.cells.2.2.1
  have lp1 := hL1.lt.1
  have HS1 := Lib.hid (HL.out.1.foot hf1 HL.out.2.1)
  have HF1 := Lib.hid (And.intro hf1 hy1)
  clear hL1 hp1 hf1 hy1
  go_region_held3 (fun w' => w'.cell? ⟨p, 3, none⟩ = some (.pointer (some ⟨pa, 0, none⟩)))
   (go_keep)
   (first
    | (go_at_call 95; refine (HU.out _ (Slots.keep HS1.out (Below.refl _ _).drew (Nat.le_refl _))).mono ?_; rintro e w2 ⟨rfl, hb2⟩; have hB2 : Below w1.heap.size w1 w2 := below_step (Below.refl w1.heap.size w1).drew hb2; have v1 := (hB2.cell (p := ⟨p, 3, none⟩) lp1).trans d3; have HB2 := Lib.hid hB2; clear hB2 hb2)
    | (go_at_call 94; refine (HAd.out _ (HL1.out.acc.keep HB2.out)).mono ?_; rintro e w3 ⟨rfl, hq3, hf3⟩; have HL3 := Lib.hid ((HL1.out.keep HB2.out).counted hq3 HQ.out.2 hf3); have v2 := HL3.out.cells.2.2.2.1; have HF3 := Lib.hid (And.intro hq3 hf3); clear hq3 hf3))
  clear v1 v2 d3 d2 c2 c3
  go_wp2
  go_ret
  exact ⟨rfl, F', HL3.out, ((HF1.out.1.mono fun i hi => .inl hi).trans ((Foot.of_below (F := FQ) HB2.out).trans HF3.out.2 fun i hi => .inl hi) fun i hi => .inl (.inr hi)), HF1.out.2⟩
end Go.Proofs.YtgpfmlidchogcaaGreat

set_option maxRecDepth 100000
set_option linter.unusedVariables false
namespace Go.Proofs.YtgpfmlidchogcaaGreat
open Go.RowKit

theorem turnedFoot {w w' : World} {m : Nat} (h : w.mapTurned w' m) : Foot (· = m) w w' := (Foot.refl (· = m) w).grown h.grown fun k hk => by injection hk with hk; exact .inl hk.symm
section
variable {w w' : World} {lk : Int} {p pp pa hm : Nat} {FP FQ G : Nat → Prop} {V V' : Int → Value} {fs : List Fr} {st : LS} {hs' : List Hd}
theorem LAt.mapped (h : LAt w lk p pp pa hm FP FQ V fs st) (hok : LOk { st with hs := hs' }) (hmp : hMap w' hm hs'.length (hView hs' V')) (ht : Foot (· = hm) w w')
  (hr : ∀ g ∈ hs', w.ownsRow 0 41 4 (V' g.id) g.sl.length (g.sl.flatMap slC)) (hv : ∀ g ∈ hs', ∀ i, (V' g.id).ownBlock = some i → ¬ FP i ∧ ¬ FQ i ∧ i ≠ p ∧ i ≠ hm)
  (hvv : ∀ h ∈ hs', ∀ g ∈ hs', h.id ≠ g.id → ∀ i, (V' h.id).ownBlock = some i → (V' g.id).ownBlock ≠ some i) : LAt w' lk p pp pa hm FP FQ V' fs { st with hs := hs' } :=
 ⟨hok, (ht.block p h.lt.1 h.lt.2.2).trans h.obj, h.pool.foot ht fun i hi e => (h.ap1 i hi).2.2 e, h.acc.foot ht fun i hi e => (h.ap2 i hi).2 e, hmp,
  fun g hg => own_stays (hr g hg) fun i hi => ht.block i ((hr g hg).lt i hi).2 (hv g hg i hi).2.2.2, h.ap1, h.ap2, hv, hvv⟩
theorem LAt.slots (h : LAt w lk p pp pa hm FP FQ V fs st) {g : Hd} (hg : g ∈ st.hs) : ∃ b c, V g.id = .slice (some ⟨b, 0, none⟩) g.sl.length c ∧ Slots w w.heap.size (some ⟨b, 0, none⟩) g.sl ∧ b < w.heap.size ∧ ¬ FP b ∧ ¬ FQ b ∧ b ≠ p ∧ b ≠ hm := by
 have ho := h.rows g hg
 obtain ⟨A, c, e⟩ := own_form ho
 have hn := (h.ok.ok g hg).n1
 rcases ho.2 with ⟨e0, h0⟩ | ⟨b, cap, cur, e0, _⟩
 ·omega
 ·rw [e0] at ho
  have hl := ho.lt b rfl
  obtain ⟨a1, a2, a3, a4⟩ := h.av g hg b (by rw [e0]; rfl)
  exact ⟨b, cap, e0, own_slots ho, hl.2, a1, a2, a3, a4⟩
end
set_option maxHeartbeats 2000000 in
theorem give_l {w : World} {lk : Int} {p pp pa hm : Nat} {FP FQ : Nat → Prop} {V : Int → Value} {fs : List Fr} {st : LS} (A : Option Addr) (c : Nat) (l : List PM.Sl) (q : Int) (h : LAt w lk p pp pa hm FP FQ V fs st)
  (hs : ∀ s ∈ l, SlIn s) (hl : Slots w w.heap.size A l) (hA : l ≠ [] → Off A FP) (hQ : l ≠ [] → Off A FQ) (hn : l.length ≤ 16) :
  Calls Tryz.prog 65 #[.pointer (some ⟨p, 0, none⟩), .int .i64 q, .slice A l.length c] w fun e w' => e = .returned (.tuple #[]) ∧
   ∃ FP', LAt w' lk p pp pa hm FP' FQ V fs (LM.give fs st q l) ∧ Foot (fun i => FP i ∨ FQ i) w w' ∧ ∀ i, FP' i → FP i ∨ w.heap.size ≤ i := by
 obtain ⟨c0, z0, c2, c3, _⟩ := h.cells
 have hT := h.pool.give A c l (fun s hx => (hs s hx).ok) hl hA (by unfold maxLen; omega)
 have H := Lib.hid h
 have HL := Lib.hid (And.intro hl (And.intro hA hQ))
 have lp := h.lt.1
 unfold LM.give
 obtain ⟨R, hR⟩ : ∃ R, R = PM.whole fs st.dr true l st.ts := ⟨_, rfl⟩
 rw [← hR] at hT ⊢
 have HT := Lib.hid hT
 have HU := Lib.hid (fun W (hW : Slots W W.heap.size A l) => units_l A c l W hW hs hn)
 have HAd := Lib.hid (fun W (hW : QObj W pa FQ st.qs) => hW.sub q (LM.units l))
 obtain ⟨R3, hR3⟩ : ∃ R3, R3 = qSub st.qs q (LM.units l) := ⟨_, rfl⟩
 have hql : R3.2.length = st.qs.length := by rw [hR3]; exact qSub_len _ _ _
 rw [← hR3] at HAd ⊢
 obtain ⟨⟨ug, uc⟩, hu⟩ : ∃ u, u = LM.units l := ⟨_, rfl⟩
 rw [← hu] at HU HAd
 simp only [unV] at HU HAd
 have HQ := Lib.hid hql
 clear hT hs h hl hA hQ hR hR3 hu hql
 go_enter Tryz.func65, Tryz.ntmps65
 go_wp2_with (go_at_call 96; refine HT.out.mono ?_; rintro e w1 ⟨rfl, F', hp1, hf1, hy1⟩)
 have hL1 := H.out.pooled hp1 rfl hf1 hy1
 have HL1 := Lib.hid hL1
 have d3 := hL1.cells.2.2.2.1
 have lp1 := hL1.lt.1
 have HS1 := Lib.hid (HL.out.1.foot hf1 HL.out.2.1)
 have HF1 := Lib.hid (And.intro hf1 hy1)
 clear hL1 hp1 hf1 hy1
 go_region_held3 (fun w' => w'.cell? ⟨p, 3, none⟩ = some (.pointer (some ⟨pa, 0, none⟩)))
  (go_keep)
  (first
   | (go_at_call 95; refine (HU.out _ (Slots.keep HS1.out (Below.refl _ _).drew (Nat.le_refl _))).mono ?_; rintro e w2 ⟨rfl, hb2⟩; have hB2 : Below w1.heap.size w1 w2 := below_step (Below.refl w1.heap.size w1).drew hb2; have v1 := (hB2.cell (p := ⟨p, 3, none⟩) lp1).trans d3; have HB2 := Lib.hid hB2; clear hB2 hb2)
   | (go_at_call 106; refine (HAd.out _ (HL1.out.acc.keep HB2.out)).mono ?_; rintro e w3 ⟨rfl, hq3, hf3⟩; have HL3 := Lib.hid ((HL1.out.keep HB2.out).counted hq3 HQ.out hf3); have v2 := HL3.out.cells.2.2.2.1; have HF3 := Lib.hid (And.intro hq3 hf3); clear hq3 hf3))
 clear v1 v2 d3 c2 c3
 (first | go_end0 | (go_wp2; go_end0) | refine bodyPost_ret (v := .tuple #[]) (by simp [results, go_sem]) rfl ?_)
 exact ⟨rfl, F', HL3.out, ((HF1.out.1.mono fun i hi => .inl hi).trans ((Foot.of_below (F := FQ) HB2.out).trans HF3.out.2 fun i hi => .inl hi) fun i hi => .inl (.inr hi)), HF1.out.2⟩
theorem LOk.less {st : LS} (h : LOk st) (x : Int) : LOk { st with hs := LM.del x st.hs } :=
 ⟨LM.asc_del h.asc, fun g hg => h.ok g (LM.mem_del.1 hg).1, fun g hg => h.q g (LM.mem_del.1 hg).1, Nat.le_trans LM.len_del_le h.few⟩
section
variable {w : World} {lk : Int} {p pp pa hm : Nat} {FP FQ : Nat → Prop} {V : Int → Value} {fs : List Fr} {st : LS}
theorem LAt.dropped (h : LAt w lk p pp pa hm FP FQ V fs st) {g : Hd} (hg : g ∈ st.hs) : ∃ w', (∀ ty, (Builtin.delete_ #[70, 3] ty #[.map (some hm), .int .i64 g.id]).run Tryz.prog w = .ok (.tuple #[]) w') ∧
  LAt w' lk p pp pa hm FP FQ V fs { st with hs := LM.del g.id st.hs } ∧ Foot (· = hm) w w' := by
 have hx := (h.ok.ok g hg).id
 obtain ⟨w', hrun, hmp, ht⟩ := h.map.drop hKey hTy hx 0
 have hfind := LM.find_of h.ok.asc hg
 have hlen := LM.len_del h.ok.asc hfind
 have hsome : (hView st.hs V g.id).isSome = true := by unfold hView; rw [hfind]; rfl
 rw [hsome, if_pos rfl] at hmp
 refine ⟨w', fun ty => ?_, h.mapped (h.ok.less g.id) ?_ (turnedFoot ht) (fun k hk => h.rows k (LM.mem_del.1 hk).1) (fun k hk => h.av k (LM.mem_del.1 hk).1) (fun a ha b hb => h.avv a (LM.mem_del.1 ha).1 b (LM.mem_del.1 hb).1), turnedFoot ht⟩
 ·obtain ⟨w3, hrun3, _⟩ := h.map.drop hKey hTy hx ty
  exact hrun
 ·have : st.hs.length - 1 = (LM.del g.id st.hs).length := by omega
  rw [this] at hmp
  refine hmp.congr fun y _ => ?_
  unfold hView
  rw [LM.find_del h.ok.asc]
  split <;> rfl
end
set_option maxHeartbeats 2000000 in
theorem drop_l {w : World} {lk : Int} {p pp pa hm : Nat} {FP FQ : Nat → Prop} {V : Int → Value} {fs : List Fr} {st : LS} (g : Hd) (hg : g ∈ st.hs) (h : LAt w lk p pp pa hm FP FQ V fs st) :
  Calls Tryz.prog 66 #[.pointer (some ⟨p, 0, none⟩), hdV g (V g.id)] w fun e w' => e = .returned (.tuple #[]) ∧
   ∃ FP', LAt w' lk p pp pa hm FP' FQ V fs (LM.letGo fs st g) ∧ Foot (fun i => FP i ∨ FQ i ∨ i = hm) w w' ∧ ∀ i, FP' i → FP i ∨ w.heap.size ≤ i := by
 obtain ⟨b, c, eV, hsl, hb, b1, b2, b3, b4⟩ := h.slots hg
 have hgo := h.ok.ok g hg
 have H := Lib.hid h
 have hall := h.all
 obtain ⟨w1, hw1⟩ : ∃ w1, w1 = w.alloc (.cells #[.int .i64 g.id, .int .i64 g.q, .int .i64 g.un, .bool g.run, .slice (some ⟨b, 0, none⟩) g.sl.length c] 44) := ⟨_, rfl⟩
 have hB1 : Below w.heap.size w w1 := by rw [hw1]; exact (Below.refl w.heap.size w).alloc (Nat.le_refl _) _
 have hbx : w1.heap[w.heap.size]? = some (.cells #[.int .i64 g.id, .int .i64 g.q, .int .i64 g.un, .bool g.run, .slice (some ⟨b, 0, none⟩) g.sl.length c] 44 (0, 0)) := by rw [hw1]; exact heap_alloc_new w _
 have hL1 := h.keep hB1
 have hGv := Lib.hid (give_l (some ⟨b, 0, none⟩) c g.sl g.q hL1 hgo.sl (Slots.keep hsl hB1 hB1.size) (fun _ b' off e => by cases e; exact b1) (fun _ b' off e => by cases e; exact b2) hgo.n2)
 have lF : ∀ i, (FP i ∨ FQ i) → i ≠ w.heap.size := fun i hi e => by
  have : i < w.heap.size := hall i (by rcases hi with hi | hi; exact .inr (.inr (.inl hi)); exact .inr (.inr (.inr (.inl hi))))
  omega
 have HB1 := Lib.hid hB1
 have HLF := Lib.hid lF
 have HGO := Lib.hid (And.intro hg hgo)
 have x1 : w1.cell? ⟨w.heap.size, 1, none⟩ = some (.int .i64 g.q) := cell_blk (i := 1) hbx rfl
 have x4 : w1.cell? ⟨w.heap.size, 4, none⟩ = some (.slice (some ⟨b, 0, none⟩) g.sl.length c) := cell_blk (i := 4) hbx rfl
 have HBX := Lib.hid hbx
 have HW1 := Lib.hid hw1
 have lb1 : w.heap.size < w1.heap.size := blk_lt hbx
 rw [eV]
 unfold hdV
 obtain ⟨n, hn⟩ : ∃ n, n = g.sl.length := ⟨_, rfl⟩
 rw [← hn] at hGv HW1 x4 ⊢
 obtain ⟨gid, ggid⟩ : ∃ x, x = g.id := ⟨_, rfl⟩
 obtain ⟨gq, ggq⟩ : ∃ x, x = g.q := ⟨_, rfl⟩
 obtain ⟨gu, ggu⟩ : ∃ x, x = g.un := ⟨_, rfl⟩
 obtain ⟨gr, ggr⟩ : ∃ x, x = g.run := ⟨_, rfl⟩
 have HI := Lib.hid ggid
 have GQ := Lib.hid ggq
 rw [← ggid, ← ggq, ← ggu, ← ggr] at HW1 ⊢
 rw [← ggq] at hGv x1
 clear hn hw1 hbx hL1 hB1 hsl h hg hgo lF hall eV ggid ggq ggu ggr
 go_enter Tryz.func66, Tryz.ntmps66
 go_wp2_with fail
 rw [← HW1.out]
 go_wp2_with (go_at_call 65; refine hGv.out.mono ?_; rintro e w2 ⟨rfl, F', hL2, hf2, hy2⟩)
 have y0 : w2.cell? ⟨w.heap.size, 0, none⟩ = some (.int .i64 gid) := by
  have := hf2.block w.heap.size lb1 fun hi => HLF.out _ hi rfl
  rw [HI.out]
  exact cell_blk (i := 0) (this.trans HBX.out) rfl
 have hL2d : LAt w2.drew lk p pp pa hm F' FQ V fs (LM.give fs st gq g.sl) := hL2.keep (Below.refl _ _).drew
 obtain ⟨w4, hrun, hL4, hf4⟩ := hL2d.dropped (g := g) HGO.out.1
 rw [← HI.out] at hrun
 have d4 := hL2d.cells.2.2.2.2.1
 have HL4 := Lib.hid hL4
 have HF := Lib.hid (And.intro hf2 (And.intro hy2 hf4))
 have y0' : w2.drew.cell? ⟨w.heap.size, 0, none⟩ = some (.int .i64 gid) := y0
 clear hL2 hf2 hy2 hL4 hf4 hL2d y0 x1 x4
 go_region
 (first | go_end0 | (go_wp2; go_end0) | refine bodyPost_ret (v := .tuple #[]) (by simp [results, go_sem]) rfl ?_)
 refine ⟨rfl, F', by have := HL4.out; rw [GQ.out] at this; exact this, ?_, fun i hi => ?_⟩
 ·refine ((Foot.of_below (F := fun i => FP i ∨ FQ i ∨ i = hm) HB1.out).trans (HF.out.1.mono fun i hi => ?_) fun i hi => .inl hi).drew.trans (HF.out.2.2.mono fun i (hi : i = hm) => (.inr (.inr hi) : FP i ∨ FQ i ∨ i = hm)) fun i hi => .inl hi
  rcases hi with e | e
  ·exact .inl e
  ·exact .inr (.inl e)
 ·rcases HF.out.2.1 i hi with e | e
  ·exact .inl e
  ·exact .inr (by omega)
end Go.Proofs.YtgpfmlidchogcaaGreat

set_option maxRecDepth 100000
set_option linter.unusedVariables false
namespace Go.Proofs.YtgpfmlidchogcaaGreat
open Go.RowKit

def runV (st : LS) (V : Int → Value) (id : Int) : Value × Int := match LM.find id st.hs with
 | none => (hdZ, 3)
 | some h => if h.run = true then (hdV h (V h.id), 0) else (hdZ, 8)
theorem blk5 {w : World} {b : Nat} {v0 v1 v2 v3 v4 : Value} {t : TypeId} (h : w.heap[b]? = some (.cells #[v0, v1, v2, v3, v4] t (0, 0))) :
  w.cell? ⟨b, 0, none⟩ = some v0 ∧ w.cell? ⟨b, 1, none⟩ = some v1 ∧ w.cell? ⟨b, 2, none⟩ = some v2 ∧ w.cell? ⟨b, 3, none⟩ = some v3 ∧ w.cell? ⟨b, 4, none⟩ = some v4 ∧
  w.frozen? ⟨b, 0, none⟩ = false ∧ w.frozen? ⟨b, 1, none⟩ = false ∧ w.frozen? ⟨b, 2, none⟩ = false ∧ w.frozen? ⟨b, 3, none⟩ = false ∧ w.frozen? ⟨b, 4, none⟩ = false ∧ b < w.heap.size :=
 ⟨cell_blk (i := 0) h rfl, cell_blk (i := 1) h rfl, cell_blk (i := 2) h rfl, cell_blk (i := 3) h rfl, cell_blk (i := 4) h rfl, frozen_blk h, frozen_blk h, frozen_blk h, frozen_blk h, frozen_blk h, blk_lt h⟩
theorem below_set5 {a W : World} {B b : Nat} (h : Below B a W) (hb : B ≤ b) (v0 v1 v2 v3 v4 : Value) :
  Below B a (((((W.setCell ⟨b, 0, none⟩ v0).setCell ⟨b, 1, none⟩ v1).setCell ⟨b, 2, none⟩ v2).setCell ⟨b, 3, none⟩ v3).setCell ⟨b, 4, none⟩ v4) :=
 ((((h.setCell (p := ⟨b, 0, none⟩) hb v0).setCell (p := ⟨b, 1, none⟩) hb v1).setCell (p := ⟨b, 2, none⟩) hb v2).setCell (p := ⟨b, 3, none⟩) hb v3).setCell (p := ⟨b, 4, none⟩) hb v4
set_option maxHeartbeats 2000000 in
theorem running_l {w : World} {lk : Int} {p pp pa hm : Nat} {FP FQ : Nat → Prop} {V : Int → Value} {fs : List Fr} {st : LS} (id : Int) (hid : (Lit.int .i64 id).wf = true) (h : LAt w lk p pp pa hm FP FQ V fs st) :
  Calls Tryz.prog 64 #[.pointer (some ⟨p, 0, none⟩), .int .i64 id] w fun e w' => e = .returned (.tuple #[(runV st V id).1, .int .i64 (runV st V id).2]) ∧ Below w.heap.size w w' := by
 have hB1 : Below w.heap.size w (w.alloc (.cells #[.int .i64 0, .int .i64 0, .int .i64 0, .bool false, .slice none 0 0] 44)) := (Below.refl w.heap.size w).alloc (Nat.le_refl _) _
 have hL1 := h.keep hB1
 have hlook := (hL1.map.look hKey hTy zeroHold hid).1
 have c4 := h.cells.2.2.2.2.1
 have c41 := hL1.cells.2.2.2.2.1
 have lp := h.lt.1
 have HB1 := Lib.hid hB1
 have HV : ∀ hd : Hd, hd ∈ st.hs → ∃ A n c, V hd.id = .slice A n c := fun hd hh => by
  obtain ⟨b, c, e, _⟩ := h.slots hh
  exact ⟨_, _, _, e⟩
 unfold runV
 unfold hView at hlook
 cases hf : LM.find id st.hs with
 | none =>
  rw [hf] at hlook
  simp only [Option.map_none, Option.getD_none, Option.isSome_none, hdZ] at hlook ⊢
  clear hB1 hL1 h hf HV
  go_enter Tryz.func64, Tryz.ntmps64
  obtain ⟨y0, y1, y2, y3, y4, z0, z1, z2, z3, z4, _⟩ := blk5 ((Below.heap_alloc (w.alloc (.cells #[.int .i64 0, .int .i64 0, .int .i64 0, .bool false, .slice none 0 0] 44)) (.cells #[.int .i64 0, .int .i64 0, .int .i64 0, .bool false, .slice none 0 0] 44) w.heap.size (by simp)).trans (heap_alloc_new w _))
  go_wp2
  refine bodyPost_ret (v := .tuple #[.agg #[.int .i64 0, .int .i64 0, .int .i64 0, .bool false, .slice none 0 0], .int .i64 3]) (by simp [results, Tryz.results64, go_sem, y0, y1, y2, y3, y4]) rfl ?_
  refine ⟨rfl, ?_⟩
  have hb := HB1.out.alloc HB1.out.size (.cells #[.int .i64 0, .int .i64 0, .int .i64 0, .bool false, .slice none 0 0] 44)
  exact hb
 | some hd =>
  obtain ⟨A, n, c, eV⟩ := HV hd (LM.find_some hf).1
  rw [hf] at hlook
  simp only [Option.map_some, Option.getD_some, Option.isSome_some, hdV, eV] at hlook ⊢
  obtain ⟨i, q, u, r, sl⟩ := hd
  simp only at hlook ⊢
  clear hB1 hL1 h hf HV eV
  cases r
  ·rw [if_neg (by simp)]
   simp only [hdZ]
   go_enter Tryz.func64, Tryz.ntmps64
   obtain ⟨y0, y1, y2, y3, y4, z0, z1, z2, z3, z4, _⟩ := blk5 ((Below.heap_alloc (w.alloc (.cells #[.int .i64 0, .int .i64 0, .int .i64 0, .bool false, .slice none 0 0] 44)) (.cells #[.int .i64 i, .int .i64 q, .int .i64 u, .bool false, .slice A n c] 44) w.heap.size (by simp)).trans (heap_alloc_new w _))
   go_wp2
   refine bodyPost_ret (v := .tuple #[.agg #[.int .i64 0, .int .i64 0, .int .i64 0, .bool false, .slice none 0 0], .int .i64 8]) (by simp [results, Tryz.results64, go_sem, y0, y1, y2, y3, y4]) rfl ?_
   refine ⟨rfl, ?_⟩
   have hb := HB1.out.alloc HB1.out.size (.cells #[.int .i64 i, .int .i64 q, .int .i64 u, .bool false, .slice A n c] 44)
   exact hb
  ·rw [if_pos rfl]
   go_enter Tryz.func64, Tryz.ntmps64
   obtain ⟨y0, y1, y2, y3, y4, z0, z1, z2, z3, z4, _⟩ := blk5 ((Below.heap_alloc (w.alloc (.cells #[.int .i64 i, .int .i64 q, .int .i64 u, .bool true, .slice A n c] 44)) (.cells #[.int .i64 i, .int .i64 q, .int .i64 u, .bool true, .slice A n c] 44) w.heap.size (by simp)).trans (heap_alloc_new w _))
   go_wp2
   refine bodyPost_ret (v := .tuple #[.agg #[.int .i64 i, .int .i64 q, .int .i64 u, .bool true, .slice A n c], .int .i64 0]) (by simp [results, Tryz.results64, go_sem, y0, y1, y2, y3, y4]) rfl ?_
   refine ⟨rfl, ?_⟩
   have hb := ((Below.refl w.heap.size w).alloc (Nat.le_refl _) (.cells #[.int .i64 i, .int .i64 q, .int .i64 u, .bool true, .slice A n c] 44)).alloc (by simp) (.cells #[.int .i64 i, .int .i64 q, .int .i64 u, .bool true, .slice A n c] 44)
   exact hb
end Go.Proofs.YtgpfmlidchogcaaGreat
