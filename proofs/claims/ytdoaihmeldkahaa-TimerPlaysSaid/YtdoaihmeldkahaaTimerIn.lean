/- What comes in to timer's laws; the document's comparison of numbers; timers made since a world; the document's example. -/
import Derived.Test.YtdoaihmeldkahaaReads
import Derived.Test.YtdoaihmeldkahaaTimerDue
set_option linter.unusedVariables false
namespace Go.Proofs.Ytdoaihmeldkahaa
open Go.ChangeShapes Go.WideShapes Go.ChangeAt Go.RowKit Go.Deep

/-- A call: its kind, an id, a tick. -/
structure Ta where
  a : Int
  i : Int
  k : Int
structure TaOk (x : Ta) : Prop where
  a : (Lit.int .i64 x.a).wf = true
  i : (Lit.int .i64 x.i).wf = true
  k : (Lit.int .i64 x.k).wf = true
def taC (x : Ta) : List Value := [.int .i64 x.a, .int .i64 x.i, .int .i64 x.k]
theorem taC_len (x : Ta) : (taC x).length = 3 := rfl
abbrev Tas (w : World) (B : Nat) (A : Option Addr) (l : List Ta) : Prop := Els taC 3 w B A l
abbrev Nums (w : World) (B : Nat) (A : Option Addr) (l : List Int) : Prop := Els intC 1 w B A l
def taSh : Sh := .struct (.cons (.int .i64) (.cons (.int .i64) (.cons (.int .i64) .nil)))
theorem ta_lift {w : World} {B : Nat} {cs : List Value} (hl : cs.length = 3) (h : taSh.Holds w B cs) : ∃ x : Ta, cs = taC x ∧ TaOk x := by
  match cs, hl with
  | [a, b, c], _ =>
    simp [taSh, Sh.Holds, Sh.size] at h
    obtain ⟨⟨q, rfl, hq⟩, ⟨x, rfl, hx⟩, ⟨y, rfl, hy⟩⟩ := h
    exact ⟨⟨q, x, y⟩, rfl, ⟨hq, hx, hy⟩⟩
section
variable {H : Type} {enc : TypeId × Value → H} {w : World} {held : Bool} {r : Reach} {b0 : Nat} {v : Value} {d : DataW H} {p : List MemPlace}
theorem tas_of (hv : Value.okWide Try.prog w r b0 22 v) (h : DataW.Trod enc Try.prog w 0 (fun _ => true) held 22 v d p) :
    ∃ (A : Option Addr) (c : Nat) (l : List Ta), v = .slice A l.length c ∧ l.length ≤ c ∧ c ≤ maxLen ∧ Tas w w.heap.size A l ∧ ∀ a ∈ l, TaOk a :=
  rows_of (e := taSh) (arg_slice (sh := .slice taSh) Try.underlying22 (by kernel_rfl) hv h) fun b o cs _ hl hat hh => by
    obtain ⟨u, e, hu⟩ := ta_lift hl hh
    subst e
    exact ⟨u, hat, hu⟩
theorem nums_of (hv : Value.okWide Try.prog w r b0 38 v) (h : DataW.Trod enc Try.prog w 0 (fun _ => true) held 38 v d p) :
    ∃ (A : Option Addr) (c : Nat) (l : List Int), v = .slice A l.length c ∧ l.length ≤ c ∧ c ≤ maxLen ∧ Nums w w.heap.size A l ∧ ∀ a ∈ l, (Lit.int .i64 a).wf = true :=
  rows_of (e := .int .i64) (arg_slice (sh := .slice (.int .i64)) Try.underlying38 (by kernel_rfl) hv h) fun b o cs _ hl hat hh => by
    obtain ⟨n, e, hu⟩ := hh
    subst e
    exact ⟨n, hat, hu⟩
end
/-- Own numbers, read as such. -/
theorem nums_own {w : World} {B n : Nat} {v : Value} {l : List Int} (h : w.ownsRow B 3 1 v n (l.flatMap intC)) (hn : l.length = n) :
    ∃ A c, v = .slice A l.length c ∧ Nums w w.heap.size A l ∧ ∀ b off, A = some ⟨b, off, none⟩ → B ≤ b ∧ b < w.heap.size := by
  obtain ⟨A, c, rfl⟩ := own_formT h
  obtain ⟨h1, h2⟩ := els_own intC_len h hn
  exact ⟨A, c, by rw [hn], h1, h2⟩
set_option maxRecDepth 100000 in
set_option maxHeartbeats 1000000 in
theorem ints_any (A A' : Option Addr) (c c' B B' : Nat) (l l' : List Int) (w : World) (h : Nums w B A l) (h' : Nums w B' A' l') (hB : B ≤ w.heap.size) (hB' : B' ≤ w.heap.size) (hn : l.length ≤ 5000) :
    Calls Try.prog 13 #[.slice A l.length c, .slice A' l'.length c'] w fun e w' => e = .returned (.bool (decide (l = l'))) ∧ Below w.heap.size w w' := by
  obtain ⟨R, hR⟩ : ∃ R, R = decide (l = l') := ⟨_, rfl⟩
  rw [← hR]
  obtain ⟨n, hln⟩ : ∃ n, n = l.length := ⟨_, rfl⟩
  obtain ⟨m, hlm⟩ : ∃ m, m = l'.length := ⟨_, rfl⟩
  have H := Lib.hid (And.intro hR (And.intro h (And.intro h' (And.intro hln hlm))))
  rw [← hln] at hn ⊢
  rw [← hlm]
  clear hR h h' hln hlm
  by_cases hnm : n = m
  · subst hnm
    have t0 : ((n : Int) != (n : Int)) = false := by simp
    go_enter Try.func13, Try.ntmps13
    go_wp2
    go_loopw [5] (fun i wr => ∃ k : Nat, i = .int .i64 k ∧ k ≤ n ∧ Below w.heap.size w wr ∧ Hid (l.take k = l'.take k)) (fun i _ => n - (intOf i).toNat)
    case atStart => exact ⟨0, rfl, by omega, Below.refl _ _, Lib.hid rfl⟩
    case round =>
      obtain ⟨k, rfl, hk, hBl, hall⟩ := hrel
      by_cases hlt : k < n
      · obtain ⟨u, hx⟩ := get_lt (l := l) (k := k) (by rw [← H.out.2.2.2.1]; exact hlt)
        obtain ⟨v, hy⟩ := get_lt (l := l') (k := k) (by rw [← H.out.2.2.2.2]; exact hlt)
        obtain ⟨b, off, rfl, hb, hc⟩ := H.out.2.1.at_ hx
        obtain ⟨b', off', rfl, hb', hc'⟩ := H.out.2.2.1.at_ hy
        have hcx := (hc k _ hx).keep (Nat.lt_of_lt_of_le hb hB) hBl
        have hcy := (hc' k _ hy).keep (Nat.lt_of_lt_of_le hb' hB') hBl
        have z0 : wr.cell? ⟨b, off + k, none⟩ = some (.int .i64 u) := by have := hcx 0 _ rfl; simpa using this
        have y0 : wr.cell? ⟨b', off' + k, none⟩ = some (.int .i64 v) := by have := hcy 0 _ rfl; simpa using this
        have t1 : decide (k < n) = true := decide_eq_true hlt
        have N := Lib.hid (And.intro hx hy)
        have HB := Lib.hid hBl
        by_cases e : u = v
        · have hne : (u != v) = false := by simp [e]
          have E := Lib.hid e
          clear hc hc' hcx hcy hx hy hBl e
          go_wp2
          go_quiet (fail)
          go_wp2
          go_roundw
          case rel => exact ⟨k + 1, by go_num, by omega, below_drewN HB.out _, Lib.hid (by rw [take_next N.out.1, take_next N.out.2, hall.out, E.out])⟩
          case measure => simp [intOf]; omega
        · have hne : (u != v) = true := by simpa using e
          have eR : R = false := by
            rw [H.out.1]; refine decide_eq_false fun e1 => e ?_
            rw [e1, hy] at hx; injection hx with hx; exact hx.symm
          subst eR
          clear hc hc' hcx hcy hx hy hBl e
          go_wp2
          go_quiet (fail)
          go_wp2
          go_ret
          exact ⟨rfl, below_drewN HB.out _⟩
      · obtain rfl : k = n := by omega
        have eR : R = true := by
          have e := hall.out
          rw [H.out.1]; refine decide_eq_true ?_
          rw [H.out.2.2.2.1] at e
          rw [List.take_length, ← H.out.2.2.2.1, H.out.2.2.2.2, List.take_length] at e
          exact e
        subst eR
        have HB := Lib.hid hBl
        clear hlt hBl
        go_wp2
        go_ret
        exact ⟨rfl, HB.out⟩
  · have eR : R = false := by
      rw [H.out.1]; refine decide_eq_false fun e => hnm ?_
      rw [H.out.2.2.2.1, H.out.2.2.2.2, e]
    subst eR
    have t0 : ((n : Int) != (m : Int)) = true := by simp; omega
    clear hnm
    go_enter Try.func13, Try.ntmps13
    go_wp2
    go_ret
    exact ⟨rfl, Below.refl _ _⟩
/-- A timer that was made since a world. -/
structure TIn (w0 w : World) (p : Nat) (F : Nat → Prop) (L : List En) : Prop where
  at_ : TObj w p F L
  yg : ∀ j, F j → w0.heap.size ≤ j
  bel : Below w0.heap.size w0 w
theorem TIn.foot {w0 w w' : World} {p : Nat} {F F' : Nat → Prop} {L L' : List En} (h : TIn w0 w p F L) (h' : TObj w' p F' L') (hf : Foot F w w') (hy : ∀ j, F' j → F j ∨ w.heap.size ≤ j) : TIn w0 w' p F' L' :=
  ⟨h', fun j hj => by rcases hy j hj with e | e; exact h.yg j e; have := h.bel.size; omega, h.bel.trans (hf.below h.bel.size fun i hi => h.yg i hi)⟩
theorem TIn.keep {w0 w w' : World} {p : Nat} {F : Nat → Prop} {L : List En} (h : TIn w0 w p F L) (hb : Below w.heap.size w w') : TIn w0 w' p F L :=
  ⟨h.at_.keep hb, h.yg, h.bel.trans (hb.mono h.bel.size)⟩
theorem TIn.made {w0 w w' : World} {p : Nat} {F : Nat → Prop} {L : List En} (hb : Below w0.heap.size w0 w) (h : TObj w' p F L) (hb' : Below w.heap.size w w') (hy : ∀ j, F j → w.heap.size ≤ j) : TIn w0 w' p F L :=
  ⟨h, fun j hj => by have := hy j hj; have := hb.size; omega, hb.trans (hb'.mono hb.size)⟩
set_option maxRecDepth 100000 in
set_option maxHeartbeats 1000000 in
theorem awake_t (w : World) : Calls Try.prog 7 #[] w fun e w' => e = .returned (.bool true) ∧ Below w.heap.size w w' := by
  have hN := Lib.hid (new_t w)
  have hS1 := Lib.hid (fun p F W (h : TObj W p F []) => show Calls Try.prog 9 #[.pointer (some ⟨p, 0, none⟩), .int .i64 7, .int .i64 5] W fun e w' => e = .returned (.int .i64 0) ∧ ∃ F', TObj w' p F' [⟨5, 7⟩] ∧ Foot F W w' ∧ ∀ j, F' j → F j ∨ W.heap.size ≤ j from set_t p F [] 7 5 W h (by decide))
  have hS2 := Lib.hid (fun p F W (h : TObj W p F [⟨5, 7⟩]) => show Calls Try.prog 9 #[.pointer (some ⟨p, 0, none⟩), .int .i64 3, .int .i64 5] W fun e w' => e = .returned (.int .i64 0) ∧ ∃ F', TObj w' p F' [⟨5, 3⟩, ⟨5, 7⟩] ∧ Foot F W w' ∧ ∀ j, F' j → F j ∨ W.heap.size ≤ j from set_t p F _ 3 5 W h (by decide))
  have hS3 := Lib.hid (fun p F W (h : TObj W p F [⟨5, 3⟩, ⟨5, 7⟩]) => show Calls Try.prog 9 #[.pointer (some ⟨p, 0, none⟩), .int .i64 9, .int .i64 4] W fun e w' => e = .returned (.int .i64 0) ∧ ∃ F', TObj w' p F' [⟨4, 9⟩, ⟨5, 3⟩, ⟨5, 7⟩] ∧ Foot F W w' ∧ ∀ j, F' j → F j ∨ W.heap.size ≤ j from set_t p F _ 9 4 W h (by decide))
  have hX := Lib.hid (fun p F W (h : TObj W p F [⟨4, 9⟩, ⟨5, 3⟩, ⟨5, 7⟩]) => show Calls Try.prog 16 #[.pointer (some ⟨p, 0, none⟩)] W fun e w' => e = .returned (.tuple #[.int .i64 4, .bool true]) ∧ Below W.heap.size W w' from next_t p F _ W h)
  have hD := Lib.hid (fun p F W (h : TObj W p F [⟨4, 9⟩, ⟨5, 3⟩, ⟨5, 7⟩]) => show Calls Try.prog 14 #[.pointer (some ⟨p, 0, none⟩), .int .i64 5] W fun e w' => ∃ A c F', e = .returned (.slice A 3 c) ∧ TObj w' p F' [] ∧ Foot F W w' ∧ (∀ j, F' j → F j ∨ W.heap.size ≤ j) ∧ Nums w' w'.heap.size A [9, 3, 7] from (due_t p F _ 5 W h).mono fun e w' hq => by
    obtain ⟨v, F', rfl, hown, h1, h2, h3, _⟩ := hq
    obtain ⟨A, c, rfl, hu, _⟩ := nums_own hown rfl
    exact ⟨A, c, F', rfl, h1, h2, h3, hu⟩)
  have hL := Lib.hid (fun p F W (h : TObj W p F []) => show Calls Try.prog 17 #[.pointer (some ⟨p, 0, none⟩)] W fun e w' => e = .returned (.int .i64 0) ∧ W = w' from len_t p F _ W h)
  go_enter Try.func7, Try.ntmps7
  go_wp2_with fail
  refine hN.out.mono ?_
  rintro e w1 ⟨p, F1, rfl, h1, hb1, hy1⟩
  have T1 := Lib.hid (TIn.made (Below.refl _ _) h1 hb1 hy1)
  clear h1 hb1 hy1
  go_wp2_with fail
  refine (hS1.out p F1 _ T1.out.at_).mono ?_
  rintro e w2 ⟨rfl, F2, h2, hf2, hy2⟩
  have T2 := Lib.hid (T1.out.foot h2 hf2 hy2)
  clear h2 hf2 hy2
  go_wp2_with fail
  refine (hS2.out p F2 _ T2.out.at_).mono ?_
  rintro e w3 ⟨rfl, F3, h3, hf3, hy3⟩
  have T3 := Lib.hid (T2.out.foot h3 hf3 hy3)
  clear h3 hf3 hy3
  go_wp2_with fail
  refine (hS3.out p F3 _ T3.out.at_).mono ?_
  rintro e w4 ⟨rfl, F4, h4, hf4, hy4⟩
  have T4 := Lib.hid (T3.out.foot h4 hf4 hy4)
  clear h4 hf4 hy4
  go_wp2_with fail
  refine (hX.out p F4 _ T4.out.at_).mono ?_
  rintro e w5 ⟨rfl, hb5⟩
  have T5 := Lib.hid (T4.out.keep hb5)
  clear hb5
  go_wp2_with fail
  refine (hD.out p F4 _ T5.out.at_).mono ?_
  rintro e w6 ⟨A, c, F6, rfl, h6, hf6, hy6, hu6⟩
  have T6 := Lib.hid (T5.out.foot h6 hf6 hy6)
  have U6 := Lib.hid hu6
  clear h6 hf6 hy6 hu6
  go_wp2_with fail
  have hB7 := (Below.refl w6.heap.size w6).alloc (Nat.le_refl _) (.cells #[.int .i64 9, .int .i64 3, .int .i64 7] 3)
  have hU7 : Nums (w6.alloc (.cells #[.int .i64 9, .int .i64 3, .int .i64 7] 3)) (w6.alloc (.cells #[.int .i64 9, .int .i64 3, .int .i64 7] 3)).heap.size (some ⟨w6.heap.size, 0, none⟩) [9, 3, 7] :=
    els_blk intC_len (heap_alloc_new w6 _) (fun j v hj => by simpa [intC] using hj)
  have T7 := Lib.hid (T6.out.keep hB7)
  refine (ints_any A _ c 3 _ _ [9, 3, 7] [9, 3, 7] _ (U6.out.keep hB7 (Nat.le_refl _)) hU7 hB7.size (Nat.le_refl _) (by decide)).mono ?_
  rintro e w8 ⟨rfl, hb8⟩
  have T8 := Lib.hid (T7.out.keep hb8)
  clear hb8 hB7 hU7
  rw [decide_eq_true rfl]
  go_wp2_with fail
  refine (hL.out p F6 _ T8.out.at_).mono ?_
  rintro e w9 ⟨rfl, rfl⟩
  go_wp2_with fail
  go_ret
  exact ⟨by simp, T8.out.bel⟩
end Go.Proofs.Ytdoaihmeldkahaa
