/- Gangs' records in memory; the small functions of package gang. -/
import Derived.Laws.Tables
import Derived.Laws.EntriesVeiled
import Derived.RegionTactic
import Derived.BigRegion
import Derived.Test.YtbomdannlcclkaaElsApp
import Derived.Test.YtbomdannlcclkaaGaNext
set_option linter.unusedVariables false
namespace Go.Proofs.Ytbomdannlcclkaa
open Go.RowKit

def rcC (x : Rc) : List Value := [.int .i64 x.id, .int .i64 x.q, .int .i64 x.p, .int .i64 x.r, .int .i64 x.g, .int .i64 x.c, .int .i64 x.mn, .int .i64 x.mx, .int .i64 x.st, .int .i64 x.si, .int .i64 x.nu, .int .i64 x.me, .int .i64 x.bg, .int .i64 x.en, .int .i64 x.li, .int .i64 x.wo]
def rcA (x : Rc) : Array Value := #[.int .i64 x.id, .int .i64 x.q, .int .i64 x.p, .int .i64 x.r, .int .i64 x.g, .int .i64 x.c, .int .i64 x.mn, .int .i64 x.mx, .int .i64 x.st, .int .i64 x.si, .int .i64 x.nu, .int .i64 x.me, .int .i64 x.bg, .int .i64 x.en, .int .i64 x.li, .int .i64 x.wo]
def rcV (x : Rc) : Value := .agg (rcA x)
def rcO (x : Rc) : Obj := .cells (rcA x) 42
theorem rcC_len (x : Rc) : (rcC x).length = 16 := rfl
theorem rcA_one (x : Rc) : (rcA x).all (·.oneCell') = true := by simp [rcA, Value.oneCell']
theorem rcC_one (x : Rc) : ∀ v ∈ rcC x, v.oneCell' = true := by simp [rcC, Value.oneCell']
theorem rc_new (w : World) (x : Rc) : (w.alloc (rcO x)).heap[w.heap.size]? = some (rcO x) := heap_alloc_new w _
def RcAt (w : World) (g o : Nat) (x : Rc) : Prop := CellsAt w g o (rcC x)
theorem rcAt_of {w : World} {g : Nat} {x : Rc} (h : w.heap[g]? = some (rcO x)) : RcAt w g 0 x := fun r v hr => by
  rw [Nat.zero_add]; exact cell_blk h (by simpa [rcA, rcC] using hr)
theorem info_rc : (Try.prog.info? 42).map (fun i => (i.zero, i.size, i.bytes)) = some (some (rcV GL.zr), 16, 128) := by kernel_rfl
theorem run_load_rc {oi : Oper} {ρ : Operand → Value} {W : World} {y : Operand} {g o : Nat} {x : Rc} (ho : oi.op = .load 42 y) (hy : ρ y = .pointer (some ⟨g, o, none⟩)) (h : RcAt W g o x) :
    (execOp ρ oi).run Try.prog W = .ok (.value (.agg (rcA x))) W := by
  have hl : (loadCells ⟨g, o, none⟩ 16).run Try.prog W = .ok (rcA x) W := run_loadCells_list (P := Try.prog) W ⟨g, o, none⟩ (rcC x) fun j v hv => by rw [Addr.add_lit]; exact h j v hv
  have ha : (isAgg 42).run Try.prog W = .ok true W := by
    unfold isAgg
    rw [Sem.run_bind, run_underlying Try.underlying42 W]
    simp
  unfold execOp
  simp only [ho, hy, Instr.loadAt, Instr.sureAddr, Sem.run_bind, Sem.run_pure, Result.andThen_ok, loadVar, ha, if_true, Try.sizeOf42, hl]
/-- A record is loaded. -/
theorem wpList_load_rc {ops : Array Oper} {rest : List Oper} {o : Oper} {a : Act} {w : World} {Q : Exit → Act → World → Prop} (hgd : o.guard = none) (y : Operand) (ho : o.op = .load 42 y)
    (g off : Nat) (x : Rc) (hy : a.eval y = .pointer (some ⟨g, off, none⟩)) (hx : RcAt w g off x) (h : wpList Try.prog ops Q rest (a.put o.dst (.agg (rcA x))) w) : wpList Try.prog ops Q (o :: rest) a w := by
  refine wpList_plain hgd fun K hK => ?_
  unfold Oper.wp
  rw [run_load_rc ho hy hx]
  exact hK _ _ h
/-- A record is stored into a block of one. -/
theorem wpList_store_rc {ops : Array Oper} {rest : List Oper} {o : Oper} {a : Act} {w : World} {Q : Exit → Act → World → Prop} (hgd : o.guard = none) (x y : Operand) (ho : o.op = .store 42 x y)
    (g : Nat) (z : Rc) (hx : a.eval x = .pointer (some ⟨g, 0, none⟩)) (hy : a.eval y = .agg (rcA z)) (old : Rc) (hg : w.heap[g]? = some (rcO old))
    (h : wpList Try.prog ops Q rest (a.put o.dst undef) (w.setRow g (rcA z))) : wpList Try.prog ops Q (o :: rest) a w :=
  wpList_store_row hgd 42 x y ho g (rcA z) hx hy 42 (rcA old) hg (by kernel_rfl) rfl (rcA_one z) h
theorem setRow_rc {w : World} {g : Nat} {x old : Rc} (h : w.heap[g]? = some (rcO old)) : (w.setRow g (rcA x)).heap[g]? = some (rcO x) := setRow_heap w g _ _ _ _ h
theorem below_row {w w' : World} {g : Nat} (h : Below w.heap.size w w') (hg : w.heap.size ≤ g) (cs : Array Value) : Below w.heap.size w (w'.setRow g cs) :=
  ⟨h.os, h.tape, h.output, by simp; exact h.size, fun i hi => (setRow_other w' g i cs (by omega)).trans (h.block i hi)⟩
theorem foot_row {F : Nat → Prop} {w w' : World} {g : Nat} (h : Foot F w w') (hg : F g ∨ w.heap.size ≤ g) (cs : Array Value) : Foot F w (w'.setRow g cs) :=
  ⟨h.os, h.tape, h.output, by simp; exact h.size, fun i hi hn => (setRow_other w' g i cs (by rintro rfl; rcases hg with e | e; exact hn e; omega)).trans (h.block i hi hn)⟩
/-- A record is told: it lies in a block. -/
theorem results_rc {fn : Func} {p : Tmp} (h : fn.results = #[.cell p 42]) (tmps : Array Value) (w : World) (g : Nat) (x : Rc)
    (hp : tmps.getD p undef = .pointer (some ⟨g, 0, none⟩)) (hg : w.heap[g]? = some (rcO x)) : (results fn tmps).run Try.prog w = .ok (rcV x) w := by
  have hp' : tmps[p]?.getD undef = .pointer (some ⟨g, 0, none⟩) := by simpa using hp
  simp [results, h, hp', asAddr, run_loadVar_row w g 42 42 (rcA x) (0, 0) _ hg Try.underlying42 rfl (by kernel_rfl), rcV]
theorem results_rcn {fn : Func} {p q : Tmp} (h : fn.results = #[.cell p 42, .tmp q]) (tmps : Array Value) (w : World) (g : Nat) (x : Rc) (v : Value)
    (hp : tmps.getD p undef = .pointer (some ⟨g, 0, none⟩)) (hg : w.heap[g]? = some (rcO x)) (hq : tmps.getD q undef = v) : (results fn tmps).run Try.prog w = .ok (.tuple #[rcV x, v]) w := by
  have hp' : tmps[p]?.getD undef = .pointer (some ⟨g, 0, none⟩) := by simpa using hp
  have hq' : tmps[q]?.getD undef = v := by simpa using hq
  simp [results, h, hp', hq', asAddr, run_loadVar_row w g 42 42 (rcA x) (0, 0) _ hg Try.underlying42 rfl (by kernel_rfl), rcV]

/-! ### The small functions -/
theorem itself_any (v : Value) (w : World) : Calls Try.prog 52 #[v] w fun e w' => e = .returned v ∧ w = w' := by
  go_enter Try.func52, Try.ntmps52
  go_wp2
  go_ret
  exact ⟨rfl, rfl⟩
set_option maxHeartbeats 2000000 in
theorem copied_any (g o : Nat) (x : Rc) (w : World) (h : RcAt w g o x) : Calls Try.prog 36 #[.pointer (some ⟨g, o, none⟩)] w fun e w' => e = .returned (rcV x) ∧ Below w.heap.size w w' := by
  have hB1 := (Below.refl w.heap.size w).alloc (Nat.le_refl _) (rcO GL.zr)
  have hz : (w.alloc (rcO GL.zr)).heap[w.heap.size]? = some (rcO GL.zr) := rc_new w _
  have lg : g < w.heap.size := lt_of_cell (h 0 _ rfl)
  have h1 : RcAt (w.alloc (rcO GL.zr)) g o x := h.keep lg hB1
  have HB := Lib.hid hB1
  have HZ := Lib.hid hz
  have H1 := Lib.hid h1
  clear h h1 hz hB1
  simp only [rcO, rcA, GL.zr] at HZ HB H1
  go_enter Try.func36, Try.ntmps36
  go_wp2_with (first
    | (refine wpList_load_rc rfl _ rfl g o x rfl H1.out ?_)
    | (refine wpList_store_rc rfl _ _ rfl w.heap.size x rfl rfl GL.zr HZ.out ?_))
  refine bodyPost_ret (results_rc Try.results36 _ _ w.heap.size x rfl (setRow_rc (old := GL.zr) HZ.out)) rfl ?_
  exact ⟨rfl, below_row HB.out (Nat.le_refl _) _⟩
set_option maxHeartbeats 2000000 in
theorem findcl_any (S : Nat) (id : Int) (g o : Nat) (x : Rc) (w : World) (hS : w.cell? ⟨S, 0, none⟩ = some (.int .i64 id)) (h : RcAt w g o x) :
    Calls Try.prog 50 #[.pointer (some ⟨g, o, none⟩), .pointer (some ⟨S, 0, none⟩)] w fun e w' => e = .returned (.bool (decide (x.id = id))) ∧ Below w.heap.size w w' := by
  have c0 : w.cell? ⟨g, o, none⟩ = some (.int .i64 x.id) := h 0 _ rfl
  clear h
  go_enter Try.func50, Try.ntmps50
  go_wp2
  go_quiet (fail)
  go_wp2
  go_ret
  exact ⟨by simp; rfl, below_drewN (Below.refl _ _) _⟩
set_option maxHeartbeats 2000000 in
theorem incl_any (S : Nat) (s : Int) (g o : Nat) (x : Rc) (w : World) (hS : w.cell? ⟨S, 0, none⟩ = some (.int .i64 s)) (h : RcAt w g o x) :
    Calls Try.prog 37 #[.pointer (some ⟨g, o, none⟩), .pointer (some ⟨S, 0, none⟩)] w fun e w' => e = .returned (.bool (decide (x.st = s))) ∧ Below w.heap.size w w' := by
  have c0 : w.cell? ⟨g, o + 8, none⟩ = some (.int .i64 x.st) := h 8 _ rfl
  clear h
  go_enter Try.func37, Try.ntmps37
  go_wp2
  go_quiet (fail)
  go_wp2
  go_ret
  exact ⟨by simp; rfl, below_drewN (Below.refl _ _) _⟩
theorem allcl_any (v : Value) (w : World) : Calls Try.prog 33 #[v] w fun e w' => e = .returned (.bool true) ∧ Below w.heap.size w w' := by
  go_enter Try.func33, Try.ntmps33
  go_wp2
  go_ret
  exact ⟨rfl, Below.refl _ _⟩
set_option maxHeartbeats 2000000 in
theorem fits_any (g c mn mx m : Int) (w : World) : Calls Try.prog 43 #[.agg #[.int .i64 g, .int .i64 c, .int .i64 mn, .int .i64 mx], .int .i64 m] w fun e w' => e = .returned (.bool (decide (mn ≤ m) && decide (m ≤ mx))) ∧ Below w.heap.size w w' := by
  have HB := Lib.hid ((Below.refl w.heap.size w).alloc (Nat.le_refl _) (.cells #[.int .i64 g, .int .i64 c, .int .i64 mn, .int .i64 mx] 38))
  obtain ⟨p, hp⟩ : ∃ p, p = decide (mn ≤ m) := ⟨_, rfl⟩
  rw [← hp]
  have t1 := hp.symm
  clear hp
  cases p
  · go_enter Try.func43, Try.ntmps43
    go_wp2
    go_ret
    exact ⟨by simp, HB.out⟩
  · go_enter Try.func43, Try.ntmps43
    go_wp2
    go_ret
    exact ⟨by simp, HB.out⟩
theorem newbook_any (w : World) : Calls Try.prog 13 #[] w fun e w' => e = .returned (.pointer (some ⟨w.heap.size, 0, none⟩)) ∧ w.alloc (.cells #[.slice none 0 0] 68) = w' := by
  go_enter Try.func13, Try.ntmps13
  go_wp2
  go_ret
  exact ⟨rfl, rfl⟩
end Go.Proofs.Ytbomdannlcclkaa
