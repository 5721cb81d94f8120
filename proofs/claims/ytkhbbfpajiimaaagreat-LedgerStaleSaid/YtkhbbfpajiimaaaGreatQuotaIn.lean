/- What comes in to quota's laws; their own do, and the document's example. -/
import Derived.Test.YtkhbbfpajiimaaaGreatReads
import Derived.Test.YtkhbbfpajiimaaaGreatQuotaNew
set_option linter.unusedVariables false
set_option maxRecDepth 100000
namespace Go.Proofs.YtkhbbfpajiimaaaGreat
open Go.ChangeShapes Go.WideShapes Go.ChangeAt Go.RowKit Go.Deep

def unSh : Sh := .struct (.cons (.int .i64) (.cons (.int .i64) .nil))
theorem un_lift {w : World} {B : Nat} {cs : List Value} (hl : cs.length = 2) (h : unSh.Holds w B cs) : ∃ u : Un, cs = uC u ∧ UnW u := by
  match cs, hl with
  | [a, b], _ =>
    simp [unSh, Sh.Holds, Sh.size] at h
    obtain ⟨⟨x, rfl, hx⟩, ⟨y, rfl, hy⟩⟩ := h
    exact ⟨⟨x, y⟩, rfl, ⟨hx, hy⟩⟩
/-- A call: Sub (or Add), of a queue, units. -/
structure Qc where
  sub : Bool
  q : Int
  u : Un
structure QcOk (x : Qc) : Prop where
  q : (Lit.int .i64 x.q).wf = true
  u : UnW x.u
def qcC (x : Qc) : List Value := [.bool x.sub, .int .i64 x.q, .int .i64 x.u.g, .int .i64 x.u.c]
def qcV (x : Qc) : Value := .agg #[.bool x.sub, .int .i64 x.q, .int .i64 x.u.g, .int .i64 x.u.c]
theorem qcC_len (x : Qc) : (qcC x).length = 4 := rfl
abbrev Qcs (w : World) (B : Nat) (A : Option Addr) (l : List Qc) : Prop := Els qcC 4 w B A l
def qcSh : Sh := .struct (.cons .bool (.cons (.int .i64) (.cons unSh .nil)))
theorem qc_lift {w : World} {B : Nat} {cs : List Value} (hl : cs.length = 4) (h : qcSh.Holds w B cs) : ∃ x : Qc, cs = qcC x ∧ QcOk x := by
  match cs, hl with
  | [a, b, c, d], _ =>
    simp [qcSh, unSh, Sh.Holds, Sh.size] at h
    obtain ⟨h0, ⟨q, rfl, hq⟩, ⟨x, rfl, hx⟩, ⟨y, rfl, hy⟩⟩ := h
    obtain ⟨s, rfl⟩ : ∃ s, a = Value.bool s := by
      rcases h0 with h0 | h0
      · exact ⟨_, h0⟩
      · exact ⟨_, h0⟩
    exact ⟨⟨s, q, ⟨x, y⟩⟩, rfl, ⟨hq, ⟨hx, hy⟩⟩⟩
section
variable {H : Type} {enc : TypeId × Value → H} {w : World} {held : Bool} {r : Reach} {b0 : Nat} {v : Value} {d : DataW H} {p : List MemPlace}
theorem uns_of (hv : Value.okWide Tryz.prog w r b0 25 v) (h : DataW.Trod enc Tryz.prog w 0 (fun _ => true) held 25 v d p) :
    ∃ (A : Option Addr) (c : Nat) (l : List Un), v = .slice A l.length c ∧ l.length ≤ c ∧ c ≤ maxLen ∧ Uns w w.heap.size A l ∧ ∀ a ∈ l, UnW a :=
  rows_of (e := unSh) (arg_slice (sh := .slice unSh) Tryz.underlying25 (by kernel_rfl) hv h) fun b o cs _ hl hat hh => by
    obtain ⟨u, e, hu⟩ := un_lift hl hh
    subst e
    exact ⟨u, hat, hu⟩
theorem un_of (hv : Value.okWide Tryz.prog w r b0 58 v) (h : DataW.Trod enc Tryz.prog w 0 (fun _ => true) held 58 v d p) : ∃ u : Un, v = unV u ∧ UnW u := by
  obtain ⟨cs, rfl, hl, hh⟩ := arg_struct (sh := unSh) Tryz.underlying58 (by kernel_rfl) hv h
  obtain ⟨s, rfl, hs⟩ := un_lift (by rw [hl]; kernel_rfl) hh
  exact ⟨s, rfl, hs⟩
theorem qc_of (hv : Value.okWide Tryz.prog w r b0 265 v) (h : DataW.Trod enc Tryz.prog w 0 (fun _ => true) held 265 v d p) : ∃ x : Qc, v = qcV x ∧ QcOk x := by
  obtain ⟨cs, rfl, hl, hh⟩ := arg_struct (sh := qcSh) Tryz.underlying265 (by kernel_rfl) hv h
  obtain ⟨s, rfl, hs⟩ := qc_lift (by rw [hl]; kernel_rfl) hh
  exact ⟨s, rfl, hs⟩
theorem quotaIn_mark : True := trivial
end
/-- What a call answers, and leaves. -/
def qDo (l : List Qa) (x : Qc) : Int × List Qa := if x.sub then qSub l x.q x.u else qAdd l x.q x.u
theorem unV_ne (u v : Un) (W : World) : (binOp .neq 58 (.agg #[.int .i64 u.g, .int .i64 u.c]) (.agg #[.int .i64 v.g, .int .i64 v.c])).run Tryz.prog W = .ok (.bool (!decide (u = v))) W := by
  obtain ⟨a, b⟩ := u
  obtain ⟨c, d⟩ := v
  go_simp
  by_cases h1 : a = c <;> by_cases h2 : b = d <;> simp [h1, h2]
set_option maxRecDepth 100000 in
set_option maxHeartbeats 1000000 in
theorem same_u (A A' : Option Addr) (c c' : Nat) (l l' : List Un) (w : World) (h : Uns w w.heap.size A l) (h' : Uns w w.heap.size A' l') (hn : l.length ≤ 1000) :
    Calls Tryz.prog 21 #[.slice A l.length c, .slice A' l'.length c'] w fun e w' => e = .returned (.bool (decide (l = l'))) ∧ Below w.heap.size w w' := by
  obtain ⟨R, hR⟩ : ∃ R, R = decide (l = l') := ⟨_, rfl⟩
  rw [← hR]
  obtain ⟨n, hln⟩ : ∃ n, n = l.length := ⟨_, rfl⟩
  obtain ⟨m, hlm⟩ : ∃ m, m = l'.length := ⟨_, rfl⟩
  have H := Lib.hid (And.intro hR (And.intro h (And.intro h' (And.intro hln hlm))))
  rw [← hln] at hn ⊢
  rw [← hlm]
  clear hR h h' hln hlm
  by_cases hnm : n = m
  · subst hnm
    have t0 : ((n : Int) != (n : Int)) = false := by simp
    go_enter Tryz.func21, Tryz.ntmps21
    go_wp2
    go_loopw [5] (fun i wr => ∃ k : Nat, i = .int .i64 k ∧ k ≤ n ∧ Below w.heap.size w wr ∧ Hid (l.take k = l'.take k)) (fun i _ => n - (intOf i).toNat)
    case atStart => exact ⟨0, rfl, by omega, Below.refl _ _, Lib.hid rfl⟩
    case round =>
      obtain ⟨k, rfl, hk, hBl, hall⟩ := hrel
      by_cases hlt : k < n
      · obtain ⟨u, hx⟩ := get_lt (l := l) (k := k) (by rw [← H.out.2.2.2.1]; exact hlt)
        obtain ⟨v, hy⟩ := get_lt (l := l') (k := k) (by rw [← H.out.2.2.2.2]; exact hlt)
        obtain ⟨b, off, rfl, hb, hc⟩ := H.out.2.1.at_ hx
        obtain ⟨b', off', rfl, hb', hc'⟩ := H.out.2.2.1.at_ hy
        have hcx := (hc k _ hx).keep hb hBl
        have hcy := (hc' k _ hy).keep hb' hBl
        have z0 : wr.cell? ⟨b, off + k * 2, none⟩ = some (.int .i64 u.g) := hcx 0 _ rfl
        have z1 : wr.cell? ⟨b, off + k * 2 + 1, none⟩ = some (.int .i64 u.c) := hcx 1 _ rfl
        have y0 : wr.cell? ⟨b', off' + k * 2, none⟩ = some (.int .i64 v.g) := hcy 0 _ rfl
        have y1 : wr.cell? ⟨b', off' + k * 2 + 1, none⟩ = some (.int .i64 v.c) := hcy 1 _ rfl
        have t1 : decide (k < n) = true := decide_eq_true hlt
        have hne := unV_ne u v
        have N := Lib.hid (And.intro hx hy)
        have HB := Lib.hid hBl
        by_cases e : u = v
        · have e0 : decide (u = v) = true := decide_eq_true e
          rw [e0] at hne
          have E := Lib.hid e
          obtain ⟨ug, uc⟩ := u
          obtain ⟨vg, vc⟩ := v
          simp only at z0 z1 y0 y1 hne
          clear hc hc' hcx hcy hx hy hBl e e0
          go_wp2
          go_quiet (fail)
          go_wp2
          go_roundw
          case rel => exact ⟨k + 1, by go_num, by omega, below_drewN HB.out _, Lib.hid (by rw [take_next N.out.1, take_next N.out.2, hall.out, E.out])⟩
          case measure => simp [intOf]; omega
        · have e0 : decide (u = v) = false := decide_eq_false e
          rw [e0] at hne
          have eR : R = false := by
            rw [H.out.1]; refine decide_eq_false fun e1 => e ?_
            rw [e1, hy] at hx; injection hx with hx; exact hx.symm
          subst eR
          obtain ⟨ug, uc⟩ := u
          obtain ⟨vg, vc⟩ := v
          simp only at z0 z1 y0 y1 hne
          clear hc hc' hcx hcy hx hy hBl e e0
          go_wp2
          go_quiet (fail)
          go_wp2
          go_ret
          exact ⟨rfl, below_drewN HB.out _⟩
      · obtain rfl : k = n := by omega
        have eR : R = true := by
          have e := hall.out
          rw [H.out.1]; refine decide_eq_true ?_
          rw [H.out.2.2.2.1] at e
          rw [List.take_length, ← H.out.2.2.2.1, H.out.2.2.2.2, List.take_length] at e
          exact e
        subst eR
        have HB := Lib.hid hBl
        clear hlt hBl
        go_wp2
        go_ret
        exact ⟨rfl, HB.out⟩
  · have eR : R = false := by
      rw [H.out.1]; refine decide_eq_false fun e => hnm ?_
      rw [H.out.2.2.2.1, H.out.2.2.2.2, e]
    subst eR
    have t0 : ((n : Int) != (m : Int)) = true := by simp; omega
    clear hnm
    go_enter Tryz.func21, Tryz.ntmps21
    go_wp2
    go_ret
    exact ⟨rfl, Below.refl _ _⟩
end Go.Proofs.YtkhbbfpajiimaaaGreat
