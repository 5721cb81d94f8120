/- The document's timer: a row of entries that rises: find, At, Due. -/
import Derived.Test.YtdoaihmeldkahaaElsApp
import Derived.Test.YtdoaihmeldkahaaHeldTo
import Derived.Test.YtdoaihmeldkahaaTimerDue
set_option linter.unusedVariables false
namespace Go.Proofs.Ytdoaihmeldkahaa
open Go.RowKit

def rnC (x : En) : List Value := [.int .i64 x.k, .int .i64 x.i]
theorem rnC_len (x : En) : (rnC x).length = 2 := rfl
theorem rnC_one (x : En) : ∀ v ∈ rnC x, v.oneCell' = true := by simp [rnC, Value.oneCell']
abbrev rB (p : Nat) (A : Option Addr) (L : List En) : Nat → Prop := fun i => i = p ∨ (L ≠ [] ∧ ∃ off, A = some ⟨i, off, none⟩)
structure RAt (w : World) (p : Nat) (A : Option Addr) (c : Nat) (L : List En) : Prop where
  obj : w.heap[p]? = some (.cells #[.slice A L.length c] 29 (0, 0))
  row : Els rnC 2 w w.heap.size A L
  room : L.length ≤ c
  form : A = none ∨ ∃ b off, A = some ⟨b, off, none⟩
  ne : ∀ b off, A = some ⟨b, off, none⟩ → L ≠ [] → b ≠ p
  few : L.length ≤ 5000
/-- The document's timer at block p; G are its blocks. -/
def RObj (w : World) (p : Nat) (G : Nat → Prop) (L : List En) : Prop := ∃ A c, RAt w p A c L ∧ G = rB p A L
section
variable {w w' : World} {p c : Nat} {A : Option Addr} {L : List En} {G : Nat → Prop}
theorem RAt.head (h : RAt w p A c L) : w.cell? ⟨p, 0, none⟩ = some (.slice A L.length c) ∧ w.frozen? ⟨p, 0, none⟩ = false ∧ p < w.heap.size := ⟨cell_blk (i := 0) h.obj rfl, frozen_blk h.obj, blk_lt h.obj⟩
theorem RAt.at_ (h : RAt w p A c L) {k : Nat} {x : En} (hx : L[k]? = some x) : ∃ b off, A = some ⟨b, off, none⟩ ∧ b < w.heap.size ∧ b ≠ p ∧ w.cell? ⟨b, off + k * 2, none⟩ = some (.int .i64 x.k) ∧ w.cell? ⟨b, off + k * 2 + 1, none⟩ = some (.int .i64 x.i) := by
  obtain ⟨b, off, e, hb, hc⟩ := h.row.at_ hx
  have := hc k x hx
  exact ⟨b, off, e, hb, h.ne b off e (fun e2 => by rw [e2] at hx; simp at hx), this 0 _ rfl, this 1 _ rfl⟩
theorem RAt.off (h : RAt w p A c L) (hs : w.heap.size ≤ w'.heap.size) (hk : ∀ i, i < w.heap.size → rB p A L i → w'.heap[i]? = w.heap[i]?) : RAt w' p A c L := by
  refine ⟨(hk p (blk_lt h.obj) (.inl rfl)).trans h.obj, ?_, h.room, h.form, h.ne, h.few⟩
  by_cases e : L = []
  · exact .inl e
  · exact (h.row.off fun b off e1 hb => hk b hb (.inr ⟨e, off, e1⟩)).imp hs fun _ _ _ _ hd => hd
theorem RObj.off (h : RObj w p G L) (hs : w.heap.size ≤ w'.heap.size) (hk : ∀ i, i < w.heap.size → G i → w'.heap[i]? = w.heap[i]?) : RObj w' p G L := by
  obtain ⟨A, c, h1, rfl⟩ := h
  exact ⟨A, c, h1.off hs hk, rfl⟩
theorem RObj.keep (h : RObj w p G L) (hk : Below w.heap.size w w') : RObj w' p G L := h.off hk.size fun i hi _ => hk.block i hi
theorem RObj.foot {F : Nat → Prop} (h : RObj w p G L) (hk : Foot F w w') (hG : ∀ i, G i → ¬ F i) : RObj w' p G L := h.off hk.size fun i hi hf => hk.block i hi (hG i hf)
theorem RObj.lt (h : RObj w p G L) : p < w.heap.size ∧ G p ∧ ∀ i, G i → i < w.heap.size := by
  obtain ⟨A, c, h1, rfl⟩ := h
  refine ⟨blk_lt h1.obj, .inl rfl, fun i hi => ?_⟩
  rcases hi with rfl | ⟨e, off, e1⟩
  · exact blk_lt h1.obj
  · rcases h1.row with e2 | ⟨b, off2, e2, hb, _⟩
    · exact absurd e2 e
    · rw [e2] at e1; injection e1 with e1; injection e1 with e1; omega
end
namespace TM
theorem find_at : ∀ {L : List En} {k : Nat} {x : En} {i : Int}, L[k]? = some x → x.i = i → (∀ y ∈ L.take k, y.i ≠ i) → findL i L = some x ∧ remL i L = L.take k ++ L.drop (k + 1)
  | [], _, _, _, h, _, _ => by simp at h
  | y :: l, 0, x, i, h, e, _ => by
    simp at h
    subst h
    unfold findL remL
    rw [List.find?_cons_of_pos (by simpa using e), List.eraseP_cons_of_pos (by simpa using e)]
    exact ⟨rfl, rfl⟩
  | y :: l, k + 1, x, i, h, e, ha => by
    have hy := ha y (by simp)
    have ih := find_at (L := l) (k := k) (x := x) (i := i) (by simpa using h) e (fun z hz => ha z (by rw [List.take_succ_cons]; exact List.mem_cons_of_mem _ hz))
    unfold findL remL at *
    rw [List.find?_cons_of_neg (by simpa using hy), List.eraseP_cons_of_neg (by simpa using hy)]
    exact ⟨ih.1, by rw [ih.2]; rfl⟩
end TM
/-- Where an id is. -/
def FindR (L : List En) (i r : Int) : Prop := (TM.findL i L = none ∧ r = -1) ∨ ∃ (k : Nat) (x : En), r = k ∧ L[k]? = some x ∧ TM.findL i L = some x ∧ TM.remL i L = L.take k ++ L.drop (k + 1)
set_option maxRecDepth 100000 in
set_option maxHeartbeats 1000000 in
theorem find_r (p : Nat) (G : Nat → Prop) (L : List En) (i : Int) (w : World) (h : RObj w p G L) :
    Calls Try.prog 21 #[.pointer (some ⟨p, 0, none⟩), .int .i64 i] w fun e w' => ∃ r, e = .returned (.int .i64 r) ∧ w = w' ∧ FindR L i r := by
  obtain ⟨A, c, h, rfl⟩ := h
  obtain ⟨c0, _, _⟩ := h.head
  have hfew := h.few
  obtain ⟨n, hn⟩ : ∃ n, n = L.length := ⟨_, rfl⟩
  rw [← hn] at c0 hfew
  have H := Lib.hid (And.intro h hn)
  clear h hn
  go_enter Try.func21, Try.ntmps21
  go_wp2
  go_loopw [5] (fun j wr => ∃ k : Nat, j = .int .i64 k ∧ k ≤ n ∧ w = wr ∧ Hid (∀ y ∈ L.take k, y.i ≠ i)) (fun j _ => n - (intOf j).toNat)
  case atStart => exact ⟨0, rfl, by omega, rfl, Lib.hid (by simp)⟩
  case round =>
    obtain ⟨k, rfl, hk, rfl, hall⟩ := hrel
    by_cases hlt : k < n
    · obtain ⟨x, hx⟩ := get_lt (l := L) (k := k) (by rw [← H.out.2]; exact hlt)
      obtain ⟨b, off, rfl, hb, _, z0, z1⟩ := H.out.1.at_ hx
      have t1 : decide (k < n) = true := decide_eq_true hlt
      have Hx := Lib.hid hx
      clear hx
      by_cases e : x.i = i
      · have t2 : (x.i == i) = true := by simpa using e
        go_wp2
        go_ret
        exact ⟨_, rfl, rfl, .inr ⟨k, x, rfl, Hx.out, TM.find_at Hx.out e hall.out⟩⟩
      · have t2 : (x.i == i) = false := by simpa using e
        have Hall : Hid (∀ y ∈ L.take (k + 1), y.i ≠ i) := Lib.hid (fun y hy => by
          rw [take_next Hx.out] at hy
          rcases List.mem_append.1 hy with hy | hy
          · exact hall.out y hy
          · simp at hy; subst hy; exact e)
        clear hall e
        go_wp2
        go_roundw
        case rel => exact ⟨k + 1, by go_num, by omega, by first | rfl | trivial, Hall⟩
        case measure => simp [intOf]; omega
    · obtain rfl : k = n := by omega
      have Hn : Hid (TM.findL i L = none) := Lib.hid (TM.findL_none.2 (by have := hall.out; rwa [H.out.2, List.take_length] at this))
      clear hlt hall
      go_wp2
      go_ret
      exact ⟨_, rfl, rfl, .inl ⟨Hn.out, rfl⟩⟩
theorem at_r (p : Nat) (G : Nat → Prop) (L : List En) (i : Int) (w : World) (h : RObj w p G L) :
    Calls Try.prog 19 #[.pointer (some ⟨p, 0, none⟩), .int .i64 i] w fun e w' => e = .returned (.tuple #[.int .i64 (TM.atL L i).1, .int .i64 (TM.atL L i).2]) ∧ w = w' := by
  obtain ⟨E, hE⟩ : ∃ E, E = TM.atL L i := ⟨_, rfl⟩
  rw [← hE]
  unfold TM.atL at hE
  have HF := Lib.hid (find_r p G L i w h)
  obtain ⟨A, c, h, rfl⟩ := h
  obtain ⟨c0, _, _⟩ := h.head
  have hfew := h.few
  obtain ⟨n, hn⟩ : ∃ n, n = L.length := ⟨_, rfl⟩
  rw [← hn] at c0 hfew
  have H := Lib.hid (And.intro h (And.intro hn hE))
  clear h hn hE
  go_enter Try.func19, Try.ntmps19
  go_wp2_with fail
  refine HF.out.mono ?_
  rintro e w1 ⟨r, rfl, rfl, hr⟩
  have hE := H.out.2.2
  rcases hr with ⟨e1, rfl⟩ | ⟨k, x, rfl, hx, e1, _⟩
  · rw [e1] at hE
    subst hE
    go_wp2
    go_ret2
    exact ⟨rfl, rfl⟩
  · rw [e1] at hE
    subst hE
    obtain ⟨b, off, rfl, hb, _, z0, z1⟩ := H.out.1.at_ hx
    have hk : k < n := by rw [H.out.2.1]; exact (List.getElem?_eq_some_iff.1 hx).1
    have t0 : decide ((k : Int) < 0) = false := decide_eq_false (by omega)
    clear hx e1
    go_wp2
    go_ret2
    exact ⟨rfl, rfl⟩
end Go.Proofs.Ytdoaihmeldkahaa
