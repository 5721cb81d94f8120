/- What the laws of layer 3 share: Count of any row, View as a row. -/
import Derived.Test.YtkhbbfpajiimaaaGreatPoolAwake
import Derived.Test.YtkhbbfpajiimaaaGreatTopoRef2
set_option maxRecDepth 100000
namespace Go.Proofs.YtkhbbfpajiimaaaGreat
open Go.RowKit

theorem own_rows {w : World} {B : Nat} {v : Value} {l : List Fr} (h : w.ownsRow B 130 4 v l.length (l.flatMap frC)) : ∃ A c, v = .slice A l.length c ∧ Frees w w.heap.size A l := by
  rcases h.2 with ⟨rfl, h0⟩ | ⟨g, cap, cur, rfl, _⟩
  · exact ⟨none, 0, by rw [h0], .inl (List.length_eq_zero_iff.1 h0)⟩
  · exact ⟨_, _, rfl, own_frees h⟩
theorem row_frees {w : World} {g : Nat} {l : List Fr} (h : w.heap[g]? = some (rowBlk l)) : Frees w w.heap.size (some ⟨g, 0, none⟩) l := blk_frees h
theorem view_row {T : Nat → Prop} (p g dm : Nat) (fs ts : List Fr) (dr : List Bool) (w : World) (h : PoolAt w T p g dm fs ts dr) :
    Calls Tryz.prog 94 #[.pointer (some ⟨p, 0, none⟩)] w fun e w' => ∃ A c, e = .returned (.slice A (PM.view fs ts dr).length c) ∧ Frees w' w'.heap.size A (PM.view fs ts dr) ∧ Below w.heap.size w w' :=
  (view_any p g dm fs ts dr w h).mono fun e w' ⟨v, he, ho, hb⟩ => by
    obtain ⟨A, c, rfl, hr⟩ := own_rows ho
    exact ⟨A, c, he, hr, hb⟩
theorem free_row {T : Nat → Prop} (p g dm : Nat) (fs ts : List Fr) (dr : List Bool) (w : World) (h : PoolAt w T p g dm fs ts dr) :
    Calls Tryz.prog 58 #[.pointer (some ⟨p, 0, none⟩)] w fun e w' => e = .returned (.slice (some ⟨w.heap.size, 0, none⟩) (PM.free fs ts).length (PM.free fs ts).length) ∧ Frees w' w'.heap.size (some ⟨w.heap.size, 0, none⟩) (PM.free fs ts) ∧ Below w.heap.size w w' := by
  rw [PM.free_len h.inv]
  exact (free_any p g dm fs ts dr w h).mono fun e w' ⟨he, hr, hb⟩ => ⟨he, blk_frees hr, hb⟩
theorem view_sub (fs ts : List Fr) (dr : List Bool) : ∀ f ∈ PM.view fs ts dr, f ∈ PM.free fs ts := fun _ hf => (List.mem_filter.1 hf).1
theorem FsOk.freeOk {fs ts : List Fr} {n : Nat} (h : FsOk fs n) (hi : PM.Inv fs ts) : ∀ f ∈ PM.free fs ts, f.m < 18446744073709551616 ∧ f.c ≤ 1024 := fun f hf => by
  obtain ⟨a, b, _⟩ := h.free hi f hf; exact ⟨a, b⟩
theorem FsOk.viewOk {fs ts : List Fr} {dr : List Bool} {n : Nat} (h : FsOk fs n) (hi : PM.Inv fs ts) : (PM.view fs ts dr).length ≤ 1000 ∧ ∀ f ∈ PM.view fs ts dr, f.m < 18446744073709551616 ∧ f.c ≤ 1024 := by
  refine ⟨?_, fun f hf => h.freeOk hi f (view_sub _ _ _ f hf)⟩
  have := List.length_filter_le (fun f : Fr => !(dr[f.n]?.getD false)) (PM.free fs ts)
  rw [PM.free_len hi] at this
  have := h.few
  unfold PM.view
  omega
/-- One slot, handed over alone: what is done to it is one. -/
theorem take_one' {T : Nat → Prop} (p g dm b : Nat) (fs ts : List Fr) (dr : List Bool) (s : PM.Sl) (w : World) (h : PoolAt w T p g dm fs ts dr) (hs : SlOk s) (hb : w.heap[b]? = some (.cells #[.int .i64 s.n, .int .i64 s.d, .int .u64 (s.m : Nat), .int .i64 s.c] 41 (0, 0))) (hg : b ≠ g) :
    Calls Tryz.prog 108 #[.pointer (some ⟨p, 0, none⟩), .slice (some ⟨b, 0, none⟩) 1 1] w fun e w' =>
      e = .returned (.int .i64 (PM.one fs dr false s ts).1) ∧ ∃ g', PoolAt w' T p g' dm fs (PM.one fs dr false s ts).2 dr ∧ Foot (fun i => i = p ∨ i = g) w w' ∧ (g' = g ∨ w.heap.size ≤ g') := by
  have := take_one p g dm b fs ts dr s w h hs hb hg
  rwa [PM.whole_one h.inv] at this
theorem give_one' {T : Nat → Prop} (p g dm b : Nat) (fs ts : List Fr) (dr : List Bool) (s : PM.Sl) (w : World) (h : PoolAt w T p g dm fs ts dr) (hs : SlOk s) (hb : w.heap[b]? = some (.cells #[.int .i64 s.n, .int .i64 s.d, .int .u64 (s.m : Nat), .int .i64 s.c] 41 (0, 0))) (hg : b ≠ g) :
    Calls Tryz.prog 111 #[.pointer (some ⟨p, 0, none⟩), .slice (some ⟨b, 0, none⟩) 1 1] w fun e w' =>
      e = .returned (.int .i64 (PM.one fs dr true s ts).1) ∧ ∃ g', PoolAt w' T p g' dm fs (PM.one fs dr true s ts).2 dr ∧ Foot (fun i => i = p ∨ i = g) w w' ∧ (g' = g ∨ w.heap.size ≤ g') := by
  have := give_any p g dm fs ts dr (some ⟨b, 0, none⟩) 1 [s] w h (fun x hx => by simp at hx; subst hx; exact hs) (slot_blk hb) (fun _ b' off e => by cases e; exact hg) (by unfold maxLen; simp)
  rwa [PM.whole_one h.inv] at this
theorem many_ok_at {fs : List Fr} {dr : List Bool} {give : Bool} {l : List PM.Sl} {ts tk te : List Fr} {k : Nat} {s : PM.Sl} (hx : l[k]? = some s) (h : PM.many fs dr give (l.take k) ts = (0, tk)) (ht : PM.many fs dr give l ts = (0, te)) :
    (PM.one fs dr give s tk).1 = 0 ∧ PM.many fs dr give (l.take (k + 1)) ts = (0, (PM.one fs dr give s tk).2) := by
  obtain ⟨h1, h2⟩ := many_at hx h
  by_cases h0 : (PM.one fs dr give s tk).1 = 0
  · exact ⟨h0, h2 h0⟩
  · have := h1 h0
    rw [PM.whole_of_many ht] at this
    exact absurd (Prod.mk.inj this).1.symm h0
/-- The document's Same of two rows that read alike. -/
theorem same_rows (A A' : Option Addr) (c c' : Nat) (l : List Fr) (w : World) (h : Frees w w.heap.size A l) (h' : Frees w w.heap.size A' l) (h0 : 0 < l.length) (hl : l.length ≤ 1000) :
    Calls Tryz.prog 20 #[.slice A l.length c, .slice A' l.length c'] w fun e w' => e = .returned (.bool true) ∧ Below w.heap.size w w' := by
  obtain ⟨f, hf⟩ := get_lt h0
  obtain ⟨b, off, rfl, hb, hc⟩ := h.at_ hf
  obtain ⟨b', off', rfl, hb', hc'⟩ := h'.at_ hf
  exact same_some b off c l.length b' off' c' l w rfl hb hb' hc hc' hl
/-! ### Drains -/
theorem turn_off {dr : List Bool} {k : Nat} (hk : k < dr.length) : (turn dr (k : Int) false).2 = dr.set k false := by
  unfold turn
  rw [if_neg (by omega)]
  by_cases h : isDr dr (k : Int) = false
  · rw [if_pos h]
    rw [isDr_nat, List.getElem?_eq_getElem hk] at h
    simp at h
    refine (List.ext_getElem (by simp) fun i h1 h2 => ?_)
    by_cases e : k = i
    · subst e; simp [h]
    · rw [List.getElem_set_ne e]
  · rw [if_neg h]; simp
theorem isDr_self {dr : List Bool} {k : Nat} {b : Bool} (hk : k < dr.length) : isDr (dr.set k b) (k : Int) = b := by rw [isDr_nat, List.getElem?_set_self hk]; rfl
theorem turn_yes {dr : List Bool} {k : Nat} {b : Bool} (hk : k < dr.length) (h : isDr dr (k : Int) = !b) : turn dr (k : Int) b = (0, dr.set k b) := by
  unfold turn
  rw [if_neg (by omega), if_neg (by rw [h]; cases b <;> simp)]
  simp
theorem turn_no {dr : List Bool} {k : Nat} {b : Bool} (hk : k < dr.length) (h : isDr dr (k : Int) = b) : turn dr (k : Int) b = (if b = true then 4 else 3, dr) := by
  unfold turn
  rw [if_neg (by omega), if_pos h]
/-- View's row, and that it is a new one. -/
theorem view_new {T : Nat → Prop} (p g dm : Nat) (fs ts : List Fr) (dr : List Bool) (w : World) (h : PoolAt w T p g dm fs ts dr) :
    Calls Tryz.prog 94 #[.pointer (some ⟨p, 0, none⟩)] w fun e w' => ∃ A c, e = .returned (.slice A (PM.view fs ts dr).length c) ∧ Frees w' w'.heap.size A (PM.view fs ts dr) ∧ (∀ b off, A = some ⟨b, off, none⟩ → w.heap.size ≤ b ∧ b < w'.heap.size) ∧ Below w.heap.size w w' :=
  (view_any p g dm fs ts dr w h).mono fun e w' ⟨v, he, ho, hb⟩ => by
    rcases ho.2 with ⟨rfl, h0⟩ | ⟨g, cap, cur, rfl, _⟩
    · exact ⟨none, 0, by rw [he, h0], .inl (List.length_eq_zero_iff.1 h0), (fun _ _ e => by cases e), hb⟩
    · exact ⟨_, _, he, own_frees ho, (fun b off e => by cases e; exact ho.lt _ rfl), hb⟩
set_option maxHeartbeats 1000000 in
theorem same_nil (A A' : Option Addr) (c c' : Nat) (w : World) :
    Calls Tryz.prog 20 #[.slice A 0 c, .slice A' 0 c'] w fun e w' => e = .returned (.bool true) ∧ Below w.heap.size w w' := by
  go_enter Tryz.func20, Tryz.ntmps20
  go_wp2
  refine wp_loop_rounds 1 ?_
  rw [rounds_succ]
  go_wp2
  go_ret
  exact ⟨rfl, Below.refl _ _⟩
theorem same_any (A A' : Option Addr) (c c' : Nat) (l : List Fr) (w : World) (h : Frees w w.heap.size A l) (h' : Frees w w.heap.size A' l) (hl : l.length ≤ 1000) :
    Calls Tryz.prog 20 #[.slice A l.length c, .slice A' l.length c'] w fun e w' => e = .returned (.bool true) ∧ Below w.heap.size w w' := by
  cases l with
  | nil => exact same_nil A A' c c' w
  | cons f l => exact same_rows A A' c c' (f :: l) w h h' (by simp) hl
theorem turn_len (dr : List Bool) (x : Int) (b : Bool) : (turn dr x b).2.length = dr.length := by
  unfold turn
  split
  · rfl
  · split
    · rfl
    · simp
theorem act_len (fs : List Fr) (st : List Fr × List Bool) (a : Ac) : (act fs st a).2.2.length = st.2.length := by
  unfold act
  split
  · rfl
  · split
    · rfl
    · split
      · exact turn_len _ _ _
      · exact turn_len _ _ _
/-! ### All units of a cluster -/
def orderOf (turned : Bool) (l : List Fr) : List Fr := if turned then l.reverse else l
theorem orderOf_len (b : Bool) (l : List Fr) : (orderOf b l).length = l.length := by cases b <;> simp [orderOf]
theorem spot_once {fs : List Fr} (h : (fs.map spOf).Nodup) : ∀ (i j : Nat) (f g : Fr), fs[i]? = some f → fs[j]? = some g → f.n = g.n → f.d = g.d → i = j := fun i j f g hf hg h1 h2 => by
  have e : (fs.map spOf)[i]? = (fs.map spOf)[j]? := by rw [List.getElem?_map, List.getElem?_map, hf, hg]; simp [spOf, h1, h2]
  have hi : i < (fs.map spOf).length := by rw [List.length_map]; exact (List.getElem?_eq_some_iff.1 hf).1
  exact (List.getElem?_inj hi h).1 e
theorem full_take {fs : List Fr} {dr : List Bool} {k : Nat} (b : Bool) (hok : FsOk fs k) (hd : ∀ f ∈ fs, dr[f.n]? ≠ some true) : PM.many fs dr false ((orderOf b fs).map PM.slotOf) (PM.zero fs) = (0, fs) := by
  have hz : ∀ (i : Nat) (t : Fr), (PM.zero fs)[i]? = some t → t.m = 0 ∧ t.c = 0 := fun i t ht => by
    unfold PM.zero at ht
    rw [List.getElem?_map] at ht
    obtain ⟨f, _, rfl⟩ := Option.map_eq_some_iff.1 ht
    exact ⟨rfl, rfl⟩
  have hlen : (PM.zero fs).length = fs.length := by simp [PM.zero]
  have key : ∀ (ks : List Nat) (l : List Fr), ks.Nodup → ks.length = l.length → (∀ (i k : Nat) (f : Fr), ks[i]? = some k → l[i]? = some f → fs[k]? = some f) → (∀ k, k < fs.length → k ∈ ks) → PM.many fs dr false (l.map PM.slotOf) (PM.zero fs) = (0, fs) := fun ks l h1 h2 h3 h4 => by
    obtain ⟨ts', e, hl, hin, _⟩ := PM.full_many (spot_once hok.dup) hd ks l (PM.zero fs) h1 hlen h2 h3 (fun k _ t ht => hz k t ht)
    rw [e]
    have : ts' = fs := by
      refine List.ext_getElem? fun i => ?_
      by_cases hi : i < fs.length
      · obtain ⟨f, hf⟩ := get_lt hi
        have ht : (PM.zero fs)[i]? = some ⟨f.n, f.d, 0, 0⟩ := by unfold PM.zero; rw [List.getElem?_map, hf]; rfl
        rw [hin i f _ (h4 i hi) hf ht, hf]
      · rw [List.getElem?_eq_none (by omega), List.getElem?_eq_none (by omega)]
    rw [this]
  cases b
  · refine key (List.range fs.length) fs List.nodup_range (by simp) (fun i k f hi hf => ?_) (fun k hk => List.mem_range.2 hk)
    obtain ⟨_, rfl⟩ := List.getElem?_eq_some_iff.1 hi
    simpa using hf
  · refine key (List.range fs.length).reverse fs.reverse ((List.reverse_perm _).nodup_iff.2 List.nodup_range) (by simp) (fun i k f hi hf => ?_) (fun k hk => by simp [hk])
    have hil : i < fs.length := by have := (List.getElem?_eq_some_iff.1 hf).1; simpa using this
    rw [List.getElem?_reverse (by simpa using hil)] at hi hf
    simp at hi
    rw [← hf]
    obtain ⟨_, hk⟩ := List.getElem?_eq_some_iff.1 hi
    simp at hk
    rw [hk]
theorem free_full (fs : List Fr) : ∀ f ∈ PM.free fs fs, f.m = 0 ∧ f.c = 0 := by
  intro f hf
  obtain ⟨k, hk⟩ := List.mem_iff_getElem?.1 hf
  unfold PM.free at hk
  rw [List.getElem?_zipWith] at hk
  cases h : fs[k]? with
  | none => rw [h] at hk; simp at hk
  | some g =>
    rw [h] at hk; simp at hk; subst hk
    refine ⟨Nat.eq_of_testBit_eq fun i => ?_, by simp [PM.freeOf]⟩
    simp [PM.freeOf, MM.testBit_sub]
theorem sum_zero (fs : List Fr) : gsum (PM.zero fs) = 0 ∧ csum (PM.zero fs) = 0 := by
  induction fs with
  | nil => exact ⟨rfl, rfl⟩
  | cons f fs ih =>
    obtain ⟨a, b⟩ := ih
    have e : MM.cnt 0 = 0 := by decide
    simp only [PM.zero, gsum, csum, List.map_cons, List.sum_cons] at a b ⊢
    omega
def slC (s : PM.Sl) : List Value := [.int .i64 s.n, .int .i64 s.d, .int .u64 (s.m : Nat), .int .i64 s.c]
theorem slC_len (l : List PM.Sl) : (l.flatMap slC).length = l.length * 4 := by
  induction l with
  | nil => rfl
  | cons x l ih => rw [List.flatMap_cons, List.length_append, ih]; simp [slC]; omega
theorem slflat_at : ∀ {l : List PM.Sl} {i r : Nat} {f : PM.Sl}, l[i]? = some f → r < 4 → (l.flatMap slC)[i * 4 + r]? = (slC f)[r]?
  | [], _, _, _, h, _ => by simp at h
  | x :: l, 0, r, f, h, hr => by
    simp at h; subst h
    rw [List.flatMap_cons, List.getElem?_append_left (by simp [slC]; omega)]; simp
  | x :: l, i + 1, r, f, h, hr => by
    rw [List.flatMap_cons, List.getElem?_append_right (by simp [slC]; omega), show (i + 1) * 4 + r - (slC x).length = i * 4 + r by simp [slC]; omega]
    exact slflat_at (by simpa using h) hr
theorem info_slot : (Tryz.prog.info? 41).map (fun i => (i.zero, i.size, i.bytes)) = some (some (.agg #[.int .i64 0, .int .i64 0, .int .u64 0, .int .i64 0]), 4, 32) := by kernel_rfl
theorem own_slots {w : World} {B : Nat} {A : Option Addr} {c : Nat} {l : List PM.Sl} (h : w.ownsRow B 41 4 (.slice A l.length c) l.length (l.flatMap slC)) : Slots w w.heap.size A l := by
  rcases h.2 with ⟨e, h0⟩ | ⟨g, cap, cur, e, _⟩
  · exact .inl (List.length_eq_zero_iff.1 h0)
  · cases e
    refine .inr ⟨g, 0, rfl, (h.lt g rfl).2, fun i f hf => ?_⟩
    have hi : i < l.length := (List.getElem?_eq_some_iff.1 hf).1
    have hc : ∀ r, r < 4 → w.cell? ⟨g, 0 + i * 4 + r, none⟩ = (slC f)[r]? := fun r hr => by
      rw [← slflat_at hf hr, Nat.zero_add]
      exact h.cellAt _ (by omega)
    exact ⟨hc 0 (by omega), hc 1 (by omega), hc 2 (by omega), hc 3 (by omega)⟩
theorem slotOf_ok {f : Fr} (h : f.m < 18446744073709551616 ∧ f.c ≤ 1024) (hn : f.n < 1000000) (hd : f.d < 1000000) : SlOk (PM.slotOf f) := ⟨wf_nat (by omega), wf_nat (by omega), h.1, wf_nat (by omega)⟩
end Go.Proofs.YtkhbbfpajiimaaaGreat
