/- Calls that come in; the laws' own few. -/
import Derived.Test.YtgpfmlidchogcaaGreatReads
import Derived.Test.YtgpfmlidchogcaaGreatQuotaRefZ
import Derived.Test.YtgpfmlidchogcaaGreatLedCallz
set_option maxRecDepth 100000
set_option linter.unusedVariables false
namespace Go.Proofs.YtgpfmlidchogcaaGreat
open Go.ChangeShapes Go.WideShapes Go.ChangeAt Go.RowKit Go.Deep Go.MuLone

def laSh : Sh := .struct (.cons (.int .i64) (.cons (.int .i64) (.cons (.int .i64) (.cons (.int .i64) (.cons (.int .i64) (.cons (.int .i64) (.cons (.slice slSh) .nil)))))))
structure La where
 k : Int
 id : Int
 q : Int
 un : Int
 now : Int
 old : Int
 sl : List PM.Sl
structure LaOk (a : La) : Prop where
 k : (Lit.int .i64 a.k).wf = true
 id : (Lit.int .i64 a.id).wf = true
 q : (Lit.int .i64 a.q).wf = true
 un : (Lit.int .i64 a.un).wf = true
 now : (Lit.int .i64 a.now).wf = true
 old : (Lit.int .i64 a.old).wf = true
 sl : ∀ s ∈ a.sl, SlOk s
 few : a.sl.length ≤ maxLen
def laC (a : La) (A : Option Addr) (c : Nat) : List Value := [.int .i64 a.k, .int .i64 a.id, .int .i64 a.q, .int .i64 a.un, .int .i64 a.now, .int .i64 a.old, .slice A a.sl.length c]
def LaAt (w : World) (B b o : Nat) (a : La) : Prop := ∃ A c, (∀ j u, (laC a A c)[j]? = some u → w.cell? ⟨b, o + j, none⟩ = some u) ∧ Slots w B A a.sl
abbrev Las (w : World) (B : Nat) (A : Option Addr) (l : List La) : Prop := Rows B A (LaAt w B) 7 l
theorem LaAt.keep {w w' : World} {B b o : Nat} {a : La} (h : LaAt w B b o a) (hb : b < B) (hk : Below B w w') : LaAt w' B b o a := by
 obtain ⟨A, c, h1, h2⟩ := h
 exact ⟨A, c, fun j u hj => (hk.cell (p := ⟨b, o + j, none⟩) hb).trans (h1 j u hj), Slots.keep h2 hk (Nat.le_refl _)⟩
theorem Las.keep {w w' : World} {B : Nat} {A : Option Addr} {l : List La} (h : Las w B A l) (hk : Below B w w') : Las w' B A l := h.imp (Nat.le_refl _) fun _ _ _ hb hd => hd.keep hb hk
theorem la_lift {w : World} {B : Nat} {cs : List Value} (hl : cs.length = 7) (h : laSh.Holds w B cs) : ∃ (a : La) (A : Option Addr) (c : Nat), cs = laC a A c ∧ Slots w B A a.sl ∧ LaOk a := by
 match cs, hl with
 | [c0, c1, c2, c3, c4, c5, c6], _ =>
  simp only [laSh, Sh.Holds, Sh.size, List.take_succ_cons, List.take_zero, List.drop_succ_cons, List.drop_zero] at h
  obtain ⟨⟨x0, e0, h0⟩, ⟨x1, e1, h1⟩, ⟨x2, e2, h2⟩, ⟨x3, e3, h3⟩, ⟨x4, e4, h4⟩, ⟨x5, e5, h5⟩, h6, _⟩ := h
  cases e0; cases e1; cases e2; cases e3; cases e4; cases e5
  obtain ⟨A, c, l, rfl, l1, l2, l3, l4⟩ := slots_lift (show (Sh.slice slSh).Holds w B [c6] from h6)
  exact ⟨⟨x0, x1, x2, x3, x4, x5, l⟩, A, c, rfl, l3, ⟨h0, h1, h2, h3, h4, h5, l4, Nat.le_trans l1 l2⟩⟩
theorem las_lift {w : World} {B : Nat} {v : Value} (h : (Sh.slice laSh).Holds w B [v]) : ∃ (A : Option Addr) (c : Nat) (l : List La), v = .slice A l.length c ∧ l.length ≤ c ∧ c ≤ maxLen ∧ Las w B A l ∧ ∀ a ∈ l, LaOk a :=
 rows_of h fun b o cs _ hl hat hh => by
  obtain ⟨a, A, c, rfl, h1, h2⟩ := la_lift hl hh
  exact ⟨a, ⟨A, c, hat, h1⟩, h2⟩
section
variable {H : Type} {enc : TypeId × Value → H} {w : World} {held : Bool} {r : Reach} {b0 : Nat} {v : Value} {d : DataW H} {p : List MemPlace}
theorem las_of (hv : Value.okWide Tryz.prog w r b0 26 v) (h : DataW.Trod enc Tryz.prog w 0 (fun _ => true) held 26 v d p) :
  ∃ (A : Option Addr) (c : Nat) (l : List La), v = .slice A l.length c ∧ l.length ≤ c ∧ c ≤ maxLen ∧ Las w w.heap.size A l ∧ ∀ a ∈ l, LaOk a :=
 las_lift (arg_slice Tryz.underlying26 (by kernel_rfl) hv h)
end
/-! ### few -/
def fewLs (l : List La) : Bool := decide (l.length ≤ 60) && l.all fun a => decide (a.sl.length ≤ 40)
def few8 (ns : List (List (Int × Int))) (us : List Un) (l : List La) : Bool := cluOk ns && quotasOk us && fewLs l
set_option maxHeartbeats 2000000 in
theorem few_l (a0 a1 A : Option Addr) (c0 c1 c : Nat) (ns : List (List (Int × Int))) (us : List Un) (l : List La) (w : World) (h0 : Nodes w w.heap.size a0 ns) (h1 : Uns w w.heap.size a1 us) (h : Las w w.heap.size A l) (hn : l.length ≤ maxLen) (hm : ∀ a ∈ l, a.sl.length ≤ maxLen) :
  Calls Tryz.prog 5 #[.agg #[.slice a0 ns.length c0], .slice a1 us.length c1, .slice A l.length c] w fun e w' => e = .returned (.bool (few8 ns us l)) ∧ Below w.heap.size w w' := by
 obtain ⟨R, hR⟩ : ∃ R, R = few8 ns us l := ⟨_, rfl⟩
 rw [← hR]
 obtain ⟨n, hln⟩ : ∃ n, l.length = n := ⟨_, rfl⟩
 obtain ⟨m0, hm0⟩ : ∃ n, ns.length = n := ⟨_, rfl⟩
 obtain ⟨m1, hm1⟩ : ∃ n, us.length = n := ⟨_, rfl⟩
 unfold maxLen at hn
 have hRt := fun W (hW : Below w.heap.size w W) => right_any a0 c0 w.heap.size ns W (Nodes.keep h0 hW (Nat.le_refl _)) hW.size (cluOk ns) rfl
 have hQt := fun W (hW : Below w.heap.size w W) => right_q a1 c1 w.heap.size us W (h1.keep hW (Nat.le_refl _)) hW.size
 rw [hm0] at hRt
 rw [hm1] at hQt
 have H := Lib.hid (And.intro hR (And.intro h (And.intro hln hm)))
 rw [hln] at hn ⊢
 rw [hm0, hm1]
 have hBa := (Below.refl w.heap.size w).alloc (Nat.le_refl _) (.cells #[.slice a0 m0 c0] 24)
 clear hR h hln hm h0 h1 hm0 hm1
 cases hc : cluOk ns
 ·rw [hc] at hRt
  have hRr := Lib.hid hRt
  have eR : R = false := by rw [H.out.1, few8, hc]; rfl
  subst eR
  clear hRt hQt hc
  go_enter Tryz.func5, Tryz.ntmps5
  go_wp2_with (first
   | (go_at_call 15; refine (hRr.out _ hBa).mono ?_; rintro e w2 ⟨rfl, hb2⟩; have hB2 := below_step hBa hb2))
  go_ret
  exact ⟨rfl, hB2⟩
 rw [hc] at hRt
 have hRr := Lib.hid hRt
 cases hq : quotasOk us
 ·rw [hq] at hQt
  have hQr := Lib.hid hQt
  have eR : R = false := by rw [H.out.1, few8, hc, hq]; rfl
  subst eR
  clear hRt hQt hc hq
  go_enter Tryz.func5, Tryz.ntmps5
  go_wp2_with (first
   | (go_at_call 15; refine (hRr.out _ hBa).mono ?_; rintro e w2 ⟨rfl, hb2⟩; have hB2 := below_step hBa hb2)
   | (go_at_call 16; refine (hQr.out _ hB2).mono ?_; rintro e w3 ⟨rfl, hb3⟩; have hB3 := below_step hB2 hb3))
  go_ret
  exact ⟨rfl, hB3⟩
 rw [hq] at hQt
 have hQr := Lib.hid hQt
 by_cases h6 : 60 < n
 ·have eR : R = false := by rw [H.out.1]; simp [few8, fewLs, H.out.2.2.1]; omega
  subst eR
  have t0 : decide (60 < (n : Int)) = true := by simp; omega
  have t1 : decide ((n : Int) > 60) = true := by simp; omega
  clear hRt hQt hc hq
  go_enter Tryz.func5, Tryz.ntmps5
  go_wp2_with (first
   | (go_at_call 15; refine (hRr.out _ hBa).mono ?_; rintro e w2 ⟨rfl, hb2⟩; have hB2 := below_step hBa hb2)
   | (go_at_call 16; refine (hQr.out _ hB2).mono ?_; rintro e w3 ⟨rfl, hb3⟩; have hB3 := below_step hB2 hb3))
  go_ret
  exact ⟨rfl, hB3⟩
 have t0 : decide (60 < (n : Int)) = false := by simp; omega
 have t1 : decide ((n : Int) > 60) = false := by simp; omega
 have hcq : cluOk ns = true ∧ quotasOk us = true := ⟨hc, hq⟩
 have HCQ := Lib.hid hcq
 clear hRt hQt hc hq hcq
 go_enter Tryz.func5, Tryz.ntmps5
 go_wp2_with (first
  | (go_at_call 15; refine (hRr.out _ hBa).mono ?_; rintro e w2 ⟨rfl, hb2⟩; have hB2 := below_step hBa hb2)
  | (go_at_call 16; refine (hQr.out _ hB2).mono ?_; rintro e w3 ⟨rfl, hb3⟩; have hB3 := below_step hB2 hb3))
 have HB3 := Lib.hid hB3
 clear hB3 hb3 hB2 hb2 hBa
 go_loop [7] (fun i => ∃ k : Nat, i = .int .i64 k ∧ k ≤ n ∧ Hid ((l.take k).all (fun a => decide (a.sl.length ≤ 40)) = true)) (fun i => n - (intOf i).toNat)
 case atStart => exact ⟨0, rfl, by omega, Lib.hid rfl⟩
 case round =>
  obtain ⟨k, rfl, hk, hall⟩ := hrel
  by_cases hlt : k < n
  ·obtain ⟨hR, h, hln, hm⟩ := H.out
   obtain ⟨a, hx⟩ := get_lt (l := l) (k := k) (by rw [hln]; exact hlt)
   obtain ⟨b, off, rfl, hb, hc⟩ := (Las.keep h HB3.out).at_ hx
   obtain ⟨A', c', a0, _⟩ := hc k a hx
   have a6 := a0 6 (.slice A' a.sl.length c') rfl
   have tt : decide (k < n) = true := by simpa using hlt
   obtain ⟨m, hm0⟩ : ∃ m, m = a.sl.length := ⟨_, rfl⟩
   have hml := hm a (List.mem_of_getElem? hx)
   rw [← hm0] at a6 hml
   unfold maxLen at hml
   by_cases h4 : m ≤ 40
   ·have N := Lib.hid (all_next (p := fun a : La => decide (a.sl.length ≤ 40)) hx hall.out (by simp [← hm0, h4]))
    have t2 : decide (40 < (m : Int)) = false := by simp; omega
    clear hx hc h hm hR hln hm0 h4 a0
    go_wp2
    go_round
    case rel => exact ⟨k + 1, by go_num, by omega, N⟩
    case measure => simp [intOf]; omega
   ·have eR : R = false := by
     rw [hR]; unfold few8 fewLs
     rw [all_no (p := fun a : La => decide (a.sl.length ≤ 40)) hx (by simp [← hm0]; omega)]; simp
    subst eR
    have t2 : decide (40 < (m : Int)) = true := by simp; omega
    clear hx hc h hm hR hln hm0 h4 a0
    go_wp2
    go_ret
    exact ⟨rfl, HB3.out⟩
  ·obtain rfl : k = n := by omega
   have eR : R = true := by
    rw [H.out.1]; unfold few8 fewLs
    have e := hall.out
    rw [← H.out.2.2.1] at e
    rw [all_end e, H.out.2.2.1, HCQ.out.1, HCQ.out.2]; simp; omega
   subst eR
   clear hlt
   go_wp2
   go_ret
   exact ⟨rfl, HB3.out⟩
end Go.Proofs.YtgpfmlidchogcaaGreat
