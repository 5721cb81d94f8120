/- Calls and slots that come in; the laws' own few and do. -/
import Derived.Test.YtgdbjepddcmfoaaReads
import Derived.Test.YtgdbjepddcmfoaaPoolTell
namespace Go.Proofs.Ytgdbjepddcmfoaa
open Go.ChangeShapes Go.WideShapes Go.ChangeAt Go.RowKit Go.Deep

def slSh : Sh := .struct (.cons (.struct (.cons (.int .i64) (.cons (.int .i64) .nil))) (.cons (.int .u64) (.cons (.int .i64) .nil)))
def acSh : Sh := .struct (.cons (.int .i64) (.cons (.int .i64) (.cons (.slice slSh) .nil)))
/-- A call. -/
structure Ac where
  kind : Int
  node : Int
  sl : List PM.Sl
structure AcOk (a : Ac) : Prop where
  kind : (Lit.int .i64 a.kind).wf = true
  node : (Lit.int .i64 a.node).wf = true
  sl : ∀ s ∈ a.sl, SlOk s
  few : a.sl.length ≤ maxLen
def ActAt (w : World) (B b o : Nat) (a : Ac) : Prop :=
  ∃ A c, w.cell? ⟨b, o, none⟩ = some (.int .i64 a.kind) ∧ w.cell? ⟨b, o + 1, none⟩ = some (.int .i64 a.node) ∧ w.cell? ⟨b, o + 2, none⟩ = some (.slice A a.sl.length c) ∧ Slots w B A a.sl
abbrev Acts (w : World) (B : Nat) (A : Option Addr) (l : List Ac) : Prop := Rows B A (ActAt w B) 3 l
theorem ActAt.keep {w w' : World} {B b o : Nat} {a : Ac} (h : ActAt w B b o a) (hb : b < B) (hk : Below B w w') : ActAt w' B b o a := by
  obtain ⟨A, c, h1, h2, h3, h4⟩ := h
  exact ⟨A, c, (hk.cell (p := ⟨b, o, none⟩) hb).trans h1, (hk.cell (p := ⟨b, o + 1, none⟩) hb).trans h2, (hk.cell (p := ⟨b, o + 2, none⟩) hb).trans h3, Slots.keep h4 hk (Nat.le_refl _)⟩
theorem Acts.keep {w w' : World} {B : Nat} {A : Option Addr} {l : List Ac} (h : Acts w B A l) (hk : Below B w w') : Acts w' B A l := h.imp (Nat.le_refl _) fun _ _ _ hb hd => hd.keep hb hk
theorem nat_of_u64 {m : Int} (h : (Lit.int .u64 m).wf = true) : ∃ n : Nat, m = n ∧ n < 18446744073709551616 := by
  have := bounds_u64 h
  exact ⟨m.toNat, by omega, by omega⟩
theorem sl_lift {w : World} {B : Nat} {cs : List Value} (hl : cs.length = 4) (h : slSh.Holds w B cs) : ∃ s : PM.Sl, cs = [.int .i64 s.n, .int .i64 s.d, .int .u64 (s.m : Nat), .int .i64 s.c] ∧ SlOk s := by
  match cs, hl with
  | [a, b, c, d], _ =>
    simp [slSh, Sh.Holds, Sh.size] at h
    obtain ⟨⟨⟨x, rfl, hx⟩, ⟨y, rfl, hy⟩⟩, ⟨m, rfl, hm⟩, ⟨z, rfl, hz⟩⟩ := h
    obtain ⟨n, rfl, hn⟩ := nat_of_u64 hm
    exact ⟨⟨x, y, n, z⟩, rfl, ⟨hx, hy, hn, hz⟩⟩
theorem sl_at {w : World} {b o : Nat} {s : PM.Sl} {cs : List Value} (e : cs = [.int .i64 s.n, .int .i64 s.d, .int .u64 (s.m : Nat), .int .i64 s.c]) (hat : ∀ j u, cs[j]? = some u → w.cell? ⟨b, o + j, none⟩ = some u) : SlAt w b o s := by
  subst e
  exact ⟨hat 0 _ rfl, hat 1 _ rfl, hat 2 _ rfl, hat 3 _ rfl⟩
theorem slots_lift {w : World} {B : Nat} {v : Value} (h : (Sh.slice slSh).Holds w B [v]) : ∃ (A : Option Addr) (c : Nat) (l : List PM.Sl), v = .slice A l.length c ∧ l.length ≤ c ∧ c ≤ maxLen ∧ Slots w B A l ∧ ∀ s ∈ l, SlOk s :=
  rows_of h fun b o cs _ hl hat hh => by
    obtain ⟨s, e, hs⟩ := sl_lift hl hh
    exact ⟨s, sl_at e hat, hs⟩
theorem acts_lift {w : World} {B : Nat} {v : Value} (h : (Sh.slice acSh).Holds w B [v]) : ∃ (A : Option Addr) (c : Nat) (l : List Ac), v = .slice A l.length c ∧ l.length ≤ c ∧ c ≤ maxLen ∧ Acts w B A l ∧ ∀ a ∈ l, AcOk a :=
  rows_of h fun b o cs _ hl hat hh => by
    match cs, hl with
    | [c0, c1, c2], _ =>
      simp only [acSh, Sh.Holds, Sh.size, List.take_succ_cons, List.take_zero, List.drop_succ_cons, List.drop_zero] at hh
      obtain ⟨⟨x, e0, hx⟩, ⟨y, e1, hy⟩, h2, _⟩ := hh
      cases e0; cases e1
      obtain ⟨A, c, l, rfl, l1, l2, l3, l4⟩ := slots_lift (show (Sh.slice slSh).Holds w B [c2] from h2)
      exact ⟨⟨x, y, l⟩, ⟨A, c, hat 0 _ rfl, hat 1 _ rfl, hat 2 _ rfl, l3⟩, ⟨hx, hy, l4, Nat.le_trans l1 l2⟩⟩
section
variable {H : Type} {enc : TypeId × Value → H} {w : World} {held : Bool} {r : Reach} {b0 : Nat} {v : Value} {d : DataW H} {p : List MemPlace}
theorem acts_of (hv : Value.okWide Try.prog w r b0 25 v) (h : DataW.Trod enc Try.prog w 0 (fun _ => true) held 25 v d p) :
    ∃ (A : Option Addr) (c : Nat) (l : List Ac), v = .slice A l.length c ∧ l.length ≤ c ∧ c ≤ maxLen ∧ Acts w w.heap.size A l ∧ ∀ a ∈ l, AcOk a :=
  acts_lift (arg_slice Try.underlying25 (by kernel_rfl) hv h)
theorem slots_of (hv : Value.okWide Try.prog w r b0 36 v) (h : DataW.Trod enc Try.prog w 0 (fun _ => true) held 36 v d p) :
    ∃ (A : Option Addr) (c : Nat) (l : List PM.Sl), v = .slice A l.length c ∧ l.length ≤ c ∧ c ≤ maxLen ∧ Slots w w.heap.size A l ∧ ∀ s ∈ l, SlOk s :=
  slots_lift (arg_slice Try.underlying36 (by kernel_rfl) hv h)
theorem slot_of (hv : Value.okWide Try.prog w r b0 60 v) (h : DataW.Trod enc Try.prog w 0 (fun _ => true) held 60 v d p) : ∃ s : PM.Sl, v = slV s ∧ SlOk s := by
  obtain ⟨cs, rfl, hl, hh⟩ := arg_struct (sh := slSh) Try.underlying60 (by kernel_rfl) hv h
  obtain ⟨s, rfl, hs⟩ := sl_lift (by rw [hl]; kernel_rfl) hh
  exact ⟨s, rfl, hs⟩
end
/-! ### few -/
def fewA (l : List Ac) : Bool := decide (l.length ≤ 60) && l.all fun a => decide (a.sl.length ≤ 40)
set_option maxRecDepth 100000 in
set_option maxHeartbeats 1000000 in
theorem fewacts_any (A : Option Addr) (c B : Nat) (l : List Ac) (w : World) (h : Acts w B A l) (hn : l.length ≤ maxLen) (hm : ∀ a ∈ l, a.sl.length ≤ maxLen) :
    Calls Try.prog 5 #[.slice A l.length c] w fun e w' => e = .returned (.bool (fewA l)) ∧ w = w' := by
  obtain ⟨R, hR⟩ : ∃ R, R = fewA l := ⟨_, rfl⟩
  rw [← hR]
  obtain ⟨n, hln⟩ : ∃ n, l.length = n := ⟨_, rfl⟩
  unfold maxLen at hn
  have H := Lib.hid (And.intro hR (And.intro h (And.intro hln hm)))
  rw [hln] at hn ⊢
  clear hR h hln hm
  by_cases h6 : 60 < n
  · have eR : R = false := by rw [H.out.1]; simp [fewA, H.out.2.2.1]; omega
    subst eR
    have t0 : decide (60 < (n : Int)) = true := by simp; omega
    go_enter Try.func5, Try.ntmps5
    go_wp2
    go_ret
    exact ⟨rfl, rfl⟩
  have t0 : decide (60 < (n : Int)) = false := by simp; omega
  go_enter Try.func5, Try.ntmps5
  go_wp2
  go_loop [3] (fun i => ∃ k : Nat, i = .int .i64 k ∧ k ≤ n ∧ Hid ((l.take k).all (fun a => decide (a.sl.length ≤ 40)) = true)) (fun i => n - (intOf i).toNat)
  case atStart => exact ⟨0, rfl, by omega, Lib.hid rfl⟩
  case round =>
    obtain ⟨k, rfl, hk, hall⟩ := hrel
    by_cases hlt : k < n
    · obtain ⟨hR, h, hln, hm⟩ := H.out
      obtain ⟨a, hx⟩ := get_lt (l := l) (k := k) (by rw [hln]; exact hlt)
      obtain ⟨b, off, rfl, hb, hc⟩ := h.at_ hx
      obtain ⟨A', c', a0, a1, a2, _⟩ := hc k a hx
      have t1 : decide (k < n) = true := by simpa using hlt
      obtain ⟨m, hm0⟩ : ∃ m, m = a.sl.length := ⟨_, rfl⟩
      have hml := hm a (List.mem_of_getElem? hx)
      rw [← hm0] at a2 hml
      unfold maxLen at hml
      by_cases h4 : m ≤ 40
      · have N := Lib.hid (all_next (p := fun a : Ac => decide (a.sl.length ≤ 40)) hx hall.out (by simp [← hm0, h4]))
        have t2 : decide (40 < (m : Int)) = false := by simp; omega
        clear hx hc h hm hR hln hm0 h4
        go_wp2
        go_round
        case rel => exact ⟨k + 1, by go_num, by omega, N⟩
        case measure => simp [intOf]; omega
      · have eR : R = false := by
          rw [hR]; unfold fewA
          rw [all_no (p := fun a : Ac => decide (a.sl.length ≤ 40)) hx (by simp [← hm0]; omega)]; simp
        subst eR
        have t2 : decide (40 < (m : Int)) = true := by simp; omega
        clear hx hc h hm hR hln hm0 h4
        go_wp2
        go_ret
        exact ⟨rfl, rfl⟩
    · obtain rfl : k = n := by omega
      have eR : R = true := by
        rw [H.out.1]; unfold fewA
        have e := hall.out
        rw [← H.out.2.2.1] at e
        rw [all_end e, H.out.2.2.1]; simp; omega
      subst eR
      clear hlt
      go_wp2
      go_ret
      exact ⟨rfl, rfl⟩
/-! ### do -/
def act (fs : List Fr) (st : List Fr × List Bool) (a : Ac) : Int × List Fr × List Bool :=
  if a.kind = 0 then ((PM.whole fs st.2 false a.sl st.1).1, (PM.whole fs st.2 false a.sl st.1).2, st.2)
  else if a.kind = 1 then ((PM.whole fs st.2 true a.sl st.1).1, (PM.whole fs st.2 true a.sl st.1).2, st.2)
  else if a.kind = 2 then ((turn st.2 a.node true).1, st.1, (turn st.2 a.node true).2)
  else ((turn st.2 a.node false).1, st.1, (turn st.2 a.node false).2)
set_option maxRecDepth 100000 in
set_option maxHeartbeats 1000000 in
theorem do_at {T : Nat → Prop} (p g dm : Nat) (fs ts : List Fr) (dr : List Bool) (A : Option Addr) (c : Nat) (a : Ac) (w : World) (hP : PoolAt w T p g dm fs ts dr) (ha : AcOk a) (hl : Slots w w.heap.size A a.sl) (hoff : a.sl ≠ [] → Off A (· = g)) :
    Calls Try.prog 9 #[.pointer (some ⟨p, 0, none⟩), .agg #[.int .i64 a.kind, .int .i64 a.node, .slice A a.sl.length c]] w fun e w' =>
      e = .returned (.int .i64 (act fs (ts, dr) a).1) ∧ ∃ g', PoolAt w' T p g' dm fs (act fs (ts, dr) a).2.1 (act fs (ts, dr) a).2.2 ∧ (g' = g ∨ w.heap.size ≤ g') ∧ Foot (fun i => i = p ∨ i = g ∨ i = dm) w w' := by
  have hB1 := (Below.refl w.heap.size w).alloc (Nat.le_refl _) (.cells #[.int .i64 a.kind, .int .i64 a.node, .slice A a.sl.length c] 38)
  have hP1 := hP.keep hB1
  have hS1 : Slots (w.alloc (.cells #[.int .i64 a.kind, .int .i64 a.node, .slice A a.sl.length c] 38)) (w.alloc (.cells #[.int .i64 a.kind, .int .i64 a.node, .slice A a.sl.length c] 38)).heap.size A a.sl :=
    (Slots.keep hl hB1 (by simp))
  have HB := Lib.hid hB1
  unfold act
  by_cases k0 : a.kind = 0
  · rw [if_pos k0]
    have hC := Lib.hid (take_any p g dm fs ts dr A c a.sl _ hP1 ha.sl hS1 hoff ha.few)
    obtain ⟨R, hR⟩ : ∃ R, R = PM.whole fs dr false a.sl ts := ⟨_, rfl⟩
    simp only [← hR] at hC ⊢
    obtain ⟨kind, node, sl⟩ := a
    simp only at *
    have t0 : (kind == 0) = true := beq_iff_eq.2 k0
    clear hP hP1 hS1 ha hl hR k0 hoff
    go_enter Try.func9, Try.ntmps9
    go_wp2_with (go_at_call 19; refine hC.out.mono ?_; rintro e w1 ⟨rfl, g', hp1, hf1, hg1⟩)
    go_ret
    exact ⟨rfl, g', hp1, by simp at hg1; omega, ((Foot.of_below HB.out).trans hf1 (fun i hi => .inl hi)).mono (fun i hi => by rcases hi with h | h; exact .inl h; exact .inr (.inl h))⟩
  rw [if_neg k0]
  by_cases k1 : a.kind = 1
  · rw [if_pos k1]
    have hC := Lib.hid (give_any p g dm fs ts dr A c a.sl _ hP1 ha.sl hS1 hoff ha.few)
    obtain ⟨R, hR⟩ : ∃ R, R = PM.whole fs dr true a.sl ts := ⟨_, rfl⟩
    simp only [← hR] at hC ⊢
    obtain ⟨kind, node, sl⟩ := a
    simp only at *
    have t0 : (kind == 0) = false := beq_eq_false_iff_ne.2 k0
    have t1 : (kind == 1) = true := beq_iff_eq.2 k1
    clear hP hP1 hS1 ha hl hR k0 k1 hoff
    go_enter Try.func9, Try.ntmps9
    go_wp2_with (go_at_call 23; refine hC.out.mono ?_; rintro e w1 ⟨rfl, g', hp1, hf1, hg1⟩)
    go_ret
    exact ⟨rfl, g', hp1, by simp at hg1; omega, ((Foot.of_below HB.out).trans hf1 (fun i hi => .inl hi)).mono (fun i hi => by rcases hi with h | h; exact .inl h; exact .inr (.inl h))⟩
  rw [if_neg k1]
  by_cases k2 : a.kind = 2
  · rw [if_pos k2]
    have hC := Lib.hid (drain_any p g dm fs ts dr a.node _ hP1 ha.node)
    obtain ⟨R, hR⟩ : ∃ R, R = turn dr a.node true := ⟨_, rfl⟩
    simp only [← hR] at hC ⊢
    obtain ⟨kind, node, sl⟩ := a
    simp only at *
    have t0 : (kind == 0) = false := beq_eq_false_iff_ne.2 k0
    have t1 : (kind == 1) = false := beq_eq_false_iff_ne.2 k1
    have t2 : (kind == 2) = true := beq_iff_eq.2 k2
    clear hP hP1 hS1 ha hl hR k0 k1 k2 hoff
    go_enter Try.func9, Try.ntmps9
    go_wp2_with (go_at_call 24; refine hC.out.mono ?_; rintro e w1 ⟨rfl, hp1, hf1⟩)
    go_ret
    exact ⟨rfl, g, hp1, .inl rfl, ((Foot.of_below HB.out).trans hf1 (fun i hi => .inl hi)).mono (fun i hi => .inr (.inr hi))⟩
  rw [if_neg k2]
  have hC := Lib.hid (undrain_any p g dm fs ts dr a.node _ hP1 ha.node)
  obtain ⟨R, hR⟩ : ∃ R, R = turn dr a.node false := ⟨_, rfl⟩
  simp only [← hR] at hC ⊢
  obtain ⟨kind, node, sl⟩ := a
  simp only at *
  have t0 : (kind == 0) = false := beq_eq_false_iff_ne.2 k0
  have t1 : (kind == 1) = false := beq_eq_false_iff_ne.2 k1
  have t2 : (kind == 2) = false := beq_eq_false_iff_ne.2 k2
  clear hP hP1 hS1 ha hl hR k0 k1 k2 hoff
  go_enter Try.func9, Try.ntmps9
  go_wp2_with (go_at_call 25; refine hC.out.mono ?_; rintro e w1 ⟨rfl, hp1, hf1⟩)
  go_ret
  exact ⟨rfl, g, hp1, .inl rfl, ((Foot.of_below HB.out).trans hf1 (fun i hi => .inl hi)).mono (fun i hi => .inr (.inr hi))⟩
/-- A pool within these blocks. -/
def PoolIn (w : World) (F : Nat → Prop) (p : Nat) (fs : List Fr) (st : List Fr × List Bool) : Prop := ∃ T g dm, PoolAt w T p g dm fs st.1 st.2 ∧ F p ∧ F g ∧ F dm ∧ ∀ i, T i → F i
theorem do_in (F : Nat → Prop) (p : Nat) (fs : List Fr) (st : List Fr × List Bool) (A : Option Addr) (c : Nat) (a : Ac) (w : World) (h : PoolIn w F p fs st) (hF : ∀ i, w.heap.size ≤ i → F i) (ha : AcOk a) (hl : Slots w w.heap.size A a.sl) (hoff : a.sl ≠ [] → Off A F) :
    Calls Try.prog 9 #[.pointer (some ⟨p, 0, none⟩), .agg #[.int .i64 a.kind, .int .i64 a.node, .slice A a.sl.length c]] w fun e w' =>
      e = .returned (.int .i64 (act fs st a).1) ∧ PoolIn w' F p fs (act fs st a).2 ∧ Foot F w w' := by
  obtain ⟨T, g, dm, hP, h1, h2, h3, h4⟩ := h
  refine (do_at p g dm fs st.1 st.2 A c a w hP ha hl (fun hne b off e hb => hoff hne b off e (by rw [hb]; exact h2))).mono fun e w' ⟨he, g', hp, hg, hf⟩ => ⟨he, ⟨T, g', dm, hp, h1, ?_, h3, h4⟩, hf.mono ?_⟩
  · rcases hg with rfl | hg
    · exact h2
    · exact hF _ hg
  · rintro i (rfl | rfl | rfl) <;> assumption
end Go.Proofs.Ytgdbjepddcmfoaa
