/- The document's queues: one row of all; find, Len, Room, Get, All. -/
import Derived.RegionTactic
import Derived.BigRegion
import Derived.Deep.DrawnRows
import Derived.Test.YtdeniikaddlifaaHeldOn
import Derived.Test.YtdeniikaddlifaaQuAwake
set_option linter.unusedVariables false
set_option maxRecDepth 100000
namespace Go.Proofs.Ytdeniikaddlifaa
open Go.RowKit
abbrev RqB (r : Nat) (AL : Option Addr) (L : List Wt) : Nat → Prop := fun i => i = r ∨ (L ≠ [] ∧ ∃ off, AL = some ⟨i, off, none⟩)
/-- The document's queues at block r: their rooms as they came in, all waits in a row. -/
structure RqAt (w : World) (r : Nat) (A : Option Addr) (c n : Nat) (AL : Option Addr) (cl : Nat) (L : List Wt) : Prop where
  obj : w.heap[r]? = some (.cells #[.slice A n c, .slice AL L.length cl] 33 (0, 0))
  row : Wts w w.heap.size AL L
  room : L.length ≤ cl
  cm : cl ≤ maxLen
  ne : ∀ b off, AL = some ⟨b, off, none⟩ → L ≠ [] → b ≠ r
  few : L.length ≤ 1000
section
variable {w w' : World} {r c n cl : Nat} {A AL : Option Addr} {L : List Wt}
theorem RqAt.head (h : RqAt w r A c n AL cl L) : w.cell? ⟨r, 0, none⟩ = some (.slice A n c) ∧ w.cell? ⟨r, 1, none⟩ = some (.slice AL L.length cl) ∧ w.frozen? ⟨r, 1, none⟩ = false ∧ r < w.heap.size :=
  ⟨cell_blk (i := 0) h.obj rfl, cell_blk (i := 1) h.obj rfl, frozen_blk h.obj, blk_lt h.obj⟩
theorem RqAt.off (h : RqAt w r A c n AL cl L) (hs : w.heap.size ≤ w'.heap.size) (hk : ∀ i, i < w.heap.size → RqB r AL L i → w'.heap[i]? = w.heap[i]?) : RqAt w' r A c n AL cl L := by
  refine ⟨(hk r (blk_lt h.obj) (.inl rfl)).trans h.obj, ?_, h.room, h.cm, h.ne, h.few⟩
  by_cases e : L = []
  · exact .inl e
  · exact (h.row.off fun b off e1 hb => hk b hb (.inr ⟨e, off, e1⟩)).imp hs fun _ _ _ _ hd => hd
theorem RqAt.keep (h : RqAt w r A c n AL cl L) (hk : Below w.heap.size w w') : RqAt w' r A c n AL cl L := h.off hk.size fun i hi _ => hk.block i hi
theorem RqAt.lt (h : RqAt w r A c n AL cl L) : ∀ i, RqB r AL L i → i < w.heap.size := by
  intro i hi
  rcases hi with rfl | ⟨e, off, e1⟩
  · exact blk_lt h.obj
  · rcases h.row with e2 | ⟨b, off2, e2, hb, _⟩
    · exact absurd e2 e
    · rw [e2] at e1; injection e1 with e1; injection e1 with e1; omega
end
/-- Where an Id is. -/
def FindQ (L : List Wt) (id : Int) (e : Ending) : Prop := (QL.hasI L id = false ∧ e = .returned (.int .i64 (-1))) ∨ ∃ (k : Nat) (x : Wt), L[k]? = some x ∧ x.id = id ∧ e = .returned (.int .i64 k)
set_option maxHeartbeats 1000000 in
theorem rfind_q (r c n cl : Nat) (A AL : Option Addr) (L : List Wt) (id : Int) (w : World) (h : RqAt w r A c n AL cl L) :
    Calls Try.prog 36 #[.pointer (some ⟨r, 0, none⟩), .int .i64 id] w fun e w' => w = w' ∧ FindQ L id e := by
  obtain ⟨c0, c1, _, _⟩ := h.head
  have hfew := h.few
  obtain ⟨m, hm⟩ : ∃ m, m = L.length := ⟨_, rfl⟩
  rw [← hm] at c1 hfew
  have H := Lib.hid (And.intro h hm)
  clear h hm
  go_enter Try.func36, Try.ntmps36
  go_wp2
  go_loopw [5] (fun j wr => ∃ k : Nat, j = .int .i64 k ∧ k ≤ m ∧ w = wr ∧ Hid (∀ y ∈ L.take k, y.id ≠ id)) (fun j _ => m - (intOf j).toNat)
  case atStart => exact ⟨0, rfl, by omega, rfl, Lib.hid (by simp)⟩
  case round =>
    obtain ⟨k, rfl, hk, rfl, hall⟩ := hrel
    by_cases hlt : k < m
    · obtain ⟨x, hx⟩ := get_lt (l := L) (k := k) (by rw [← H.out.2]; exact hlt)
      obtain ⟨b, off, rfl, hb, hcc⟩ := H.out.1.row.at_ hx
      have t1 : decide (k < m) = true := decide_eq_true hlt
      have a0 : w.cell? ⟨b, off + k * 10, none⟩ = some (.int .i64 x.id) := hcc k x hx 0 _ rfl
      have Hx := Lib.hid hx
      clear hx hcc hb
      by_cases e : x.id = id
      · have t2 : decide (x.id = id) = true := decide_eq_true e
        go_wp2
        go_ret
        exact ⟨rfl, .inr ⟨k, x, Hx.out, e, rfl⟩⟩
      · have t2 : decide (x.id = id) = false := decide_eq_false e
        have Hall : Hid (∀ y ∈ L.take (k + 1), y.id ≠ id) := Lib.hid (fun y hy => by
          rw [take_next Hx.out] at hy
          rcases List.mem_append.1 hy with hy | hy
          · exact hall.out y hy
          · simp at hy; subst hy; exact e)
        clear hall
        go_wp2
        go_roundw
        case rel => exact ⟨k + 1, by go_num, by omega, by first | rfl | trivial, Hall⟩
        case measure => simp [intOf]; omega
    · obtain rfl : m = k := by omega
      have t1 : decide (m < m) = false := decide_eq_false hlt
      have Hn : Hid (QL.hasI L id = false) := Lib.hid (QL.hasI_false.2 (by have := hall.out; rwa [H.out.2, List.take_length] at this))
      clear hlt hall
      go_wp2
      go_ret
      exact ⟨rfl, .inl ⟨Hn.out, rfl⟩⟩
/-- How many of a queue are there. -/
def cntQ (L : List Wt) (q : Int) : Nat := (L.filter fun x => decide (x.q = q)).length
theorem cntQ_le (L : List Wt) (q : Int) : cntQ L q ≤ L.length := List.length_filter_le _ _
theorem cntQ_next {L : List Wt} {k : Nat} {x : Wt} {q : Int} (hx : L[k]? = some x) : cntQ (L.take (k + 1)) q = if x.q = q then cntQ (L.take k) q + 1 else cntQ (L.take k) q := by
  unfold cntQ
  rw [take_next hx, List.filter_append, List.length_append]
  by_cases e : x.q = q
  · rw [if_pos e]; simp [e]
  · rw [if_neg e]; simp [e]
set_option maxHeartbeats 1000000 in
theorem rlen_q (r c n cl : Nat) (A AL : Option Addr) (L : List Wt) (q : Int) (w : World) (h : RqAt w r A c n AL cl L) :
    Calls Try.prog 18 #[.pointer (some ⟨r, 0, none⟩), .int .i64 q] w fun e w' => e = .returned (.int .i64 (cntQ L q : Nat)) ∧ w = w' := by
  obtain ⟨c0, c1, _, _⟩ := h.head
  have hfew := h.few
  obtain ⟨m, hm⟩ : ∃ m, m = L.length := ⟨_, rfl⟩
  rw [← hm] at c1 hfew
  have H := Lib.hid (And.intro h hm)
  clear h hm
  go_enter Try.func18, Try.ntmps18
  go_wp2
  go_loopw [5, 6] (fun vu j wr => ∃ k u : Nat, vu = .int .i64 u ∧ j = .int .i64 k ∧ k ≤ m ∧ u ≤ k ∧ w = wr ∧ Hid (u = cntQ (L.take k) q)) (fun _ j _ => m - (intOf j).toNat)
  case atStart => exact ⟨0, 0, rfl, rfl, by omega, by omega, rfl, Lib.hid (by simp [cntQ])⟩
  case round =>
    obtain ⟨k, u, rfl, rfl, hk, huk, rfl, hU⟩ := hrel
    by_cases hlt : k < m
    · obtain ⟨x, hx⟩ := get_lt (l := L) (k := k) (by rw [← H.out.2]; exact hlt)
      obtain ⟨b, off, rfl, hb, hcc⟩ := H.out.1.row.at_ hx
      have t1 : decide (k < m) = true := decide_eq_true hlt
      have a1 : w.cell? ⟨b, off + k * 10 + 1, none⟩ = some (.int .i64 x.q) := hcc k x hx 1 _ rfl
      have HN := Lib.hid (cntQ_next (q := q) hx)
      clear hx hcc hb
      by_cases e : x.q = q
      · have t2 : decide (x.q = q) = true := decide_eq_true e
        have HU : Hid (u + 1 = cntQ (L.take (k + 1)) q) := Lib.hid (by rw [HN.out, if_pos e, ← hU.out])
        clear hU
        go_wp2
        go_roundw
        case rel => exact ⟨k + 1, u + 1, by go_num, by go_num, by omega, by omega, by first | rfl | trivial, HU⟩
        case measure => simp [intOf]; omega
      · have t2 : decide (x.q = q) = false := decide_eq_false e
        have HU : Hid (u = cntQ (L.take (k + 1)) q) := Lib.hid (by rw [HN.out, if_neg e, ← hU.out])
        clear hU
        go_wp2
        go_roundw
        case rel => exact ⟨k + 1, u, by first | rfl | go_num, by go_num, by omega, by omega, by first | rfl | trivial, HU⟩
        case measure => simp [intOf]; omega
    · obtain rfl : m = k := by omega
      have t1 : decide (m < m) = false := decide_eq_false hlt
      have HU : Hid (u = cntQ L q) := Lib.hid (by have := hU.out; rwa [H.out.2, List.take_length] at this)
      clear hlt hU
      go_wp2
      go_ret
      exact ⟨by rw [← HU.out]; rfl, rfl⟩
theorem cntQ_row {L : List Wt} {k : Nat} : cntQ L (k : Nat) = (QL.rowL L k).length := rfl
set_option maxHeartbeats 2000000 in
theorem rroom_q (r c cl : Nat) (A AL : Option Addr) (R : List Int) (L : List Wt) (q : Int) (w : World) (h : RqAt w r A c R.length AL cl L) (hv : Nums w w.heap.size A R) (hR : QL.Right R) :
    Calls Try.prog 17 #[.pointer (some ⟨r, 0, none⟩), .int .i64 q] w fun e w' => e = .returned (.int .i64 (QL.roomQ R L q)) ∧ Below w.heap.size w w' := by
  obtain ⟨c0, _, _, lr⟩ := h.head
  have hn8 := hR.hi
  have HL := Lib.hid (fun W (hW : Below w.heap.size w W) => rlen_q r c R.length cl A AL L q W (h.keep hW))
  unfold QL.roomQ QL.hasQ
  cases h0 : decide (0 ≤ q)
  · have t0 : decide (q < 0) = true := decide_eq_true (by have := of_decide_eq_false h0; omega)
    obtain ⟨n, hn⟩ : ∃ n, n = R.length := ⟨_, rfl⟩
    rw [← hn] at c0 hn8 ⊢
    clear HL h hv hR hn h0
    go_enter Try.func17, Try.ntmps17
    go_wp2
    go_ret
    exact ⟨by first | rfl | simp, Below.refl _ _⟩
  have h0' := of_decide_eq_true h0
  have t0 : decide (q < 0) = false := decide_eq_false (by omega)
  by_cases h1 : (R.length : Int) ≤ q
  · rw [show decide (q < (R.length : Int)) = false from decide_eq_false (by omega)]
    obtain ⟨n, hn⟩ : ∃ n, n = R.length := ⟨_, rfl⟩
    rw [← hn] at c0 hn8 h1
    have t1 : decide ((n : Int) ≤ q) = true := decide_eq_true h1
    clear HL h hv hR hn h0 h0'
    go_enter Try.func17, Try.ntmps17
    go_wp2
    go_ret
    exact ⟨by first | rfl | simp, Below.refl _ _⟩
  rw [show decide (q < (R.length : Int)) = true from decide_eq_true (by omega)]
  obtain ⟨k, rfl⟩ : ∃ k : Nat, q = k := ⟨q.toNat, by omega⟩
  have hk : k < R.length := by omega
  obtain ⟨r1, r2, r3⟩ := hR.of R k hk
  obtain ⟨ro, hro⟩ : ∃ ro, ro = QL.roomOf R k := ⟨_, rfl⟩
  rw [← hro] at r1 r2 r3
  obtain ⟨b, off, rfl, lb, hcc⟩ := hv.at_ r3
  have a0 : w.cell? ⟨b, off + k, none⟩ = some (.int .i64 ro) := by have := hcc k ro r3 0 _ rfl; rwa [Nat.mul_one] at this
  have hfew := h.few
  have hle := cntQ_le L (k : Int)
  rw [cntQ_row] at HL hle
  obtain ⟨u, hu⟩ : ∃ u, u = (QL.rowL L k).length := ⟨_, rfl⟩
  obtain ⟨n, hn⟩ : ∃ n, n = R.length := ⟨_, rfl⟩
  rw [← hn] at c0 hn8 h1 hk
  rw [← hu] at HL hle
  have t1 : decide ((n : Int) ≤ (k : Int)) = false := decide_eq_false (by omega)
  have hsub : IntKind.i64.wrap (ro - (u : Int)) = ro - u := IntWalk.i64_in _ (by omega)
  have HE := Lib.hid (And.intro hro hu)
  clear h hv hR hn hro hu r3 hcc h1 h0 h0'
  go_enter Try.func17, Try.ntmps17
  go_wp2_with fail
  refine held_begin (fun w' : World => w'.cell? ⟨r, 0, none⟩ = some (.slice (some ⟨b, off, none⟩) n c) ∧ w'.cell? ⟨b, off + k, none⟩ = some (.int .i64 ro)) (by kernel_rfl) ?_
  have hBh0 : Below w.heap.size w w.drew := (Below.refl _ _).drew
  have hSh0 : (fun w' : World => w'.cell? ⟨r, 0, none⟩ = some (.slice (some ⟨b, off, none⟩) n c) ∧ w'.cell? ⟨b, off + k, none⟩ = some (.int .i64 ro)) w.drew := ⟨c0, a0⟩
  refine held_take (v := ?_) 0 16 rfl rfl (by kernel_rfl) (by kernel_rfl) (by kernel_rfl) (fun _ _ _ h => h) ⟨by rfl, ?_⟩ hSh0 ?_
  rotate_left
  · intro w' hw'; obtain ⟨x0, x1⟩ := hw'; go_simp; (try with_reducible rfl)
  simp only [Act.put, List.setIfInBounds_toArray, List.set_cons_zero, List.set_cons_succ]
  refine held_take (v := ?_) 1 17 rfl rfl (by kernel_rfl) (by kernel_rfl) (by kernel_rfl) (fun _ _ _ h => h) ⟨by rfl, ?_⟩ hSh0 ?_
  rotate_left
  · intro w' hw'; obtain ⟨x0, x1⟩ := hw'; go_simp; (try with_reducible rfl)
  simp only [Act.put, List.setIfInBounds_toArray, List.set_cons_zero, List.set_cons_succ]
  refine held_take (v := ?_) 2 18 rfl rfl (by kernel_rfl) (by kernel_rfl) (by kernel_rfl) (fun _ _ _ h => h) ⟨by rfl, ?_⟩ hSh0 ?_
  rotate_left
  · intro w' hw'; obtain ⟨x0, x1⟩ := hw'; go_simp; (try with_reducible rfl)
  simp only [Act.put, List.setIfInBounds_toArray, List.set_cons_zero, List.set_cons_succ]
  refine held_take (v := ?_) 3 19 rfl rfl (by kernel_rfl) (by kernel_rfl) (by kernel_rfl) (fun _ _ _ h => h) ⟨by rfl, ?_⟩ hSh0 ?_
  rotate_left
  · intro w' hw'; obtain ⟨x0, x1⟩ := hw'; go_simp; (try with_reducible rfl)
  simp only [Act.put, List.setIfInBounds_toArray, List.set_cons_zero, List.set_cons_succ]
  refine held_take (v := ?_) 4 20 rfl rfl (by kernel_rfl) (by kernel_rfl) (by kernel_rfl) (fun _ _ _ h => h) ⟨by rfl, ?_⟩ hSh0 ?_
  rotate_left
  · intro w' hw'; obtain ⟨x0, x1⟩ := hw'; go_simp; (try with_reducible rfl)
  simp only [Act.put, List.setIfInBounds_toArray, List.set_cons_zero, List.set_cons_succ]
  refine held_take (v := ?_) 5 21 rfl rfl (by kernel_rfl) (by kernel_rfl) (by kernel_rfl) (fun _ _ _ h => h) ⟨by rfl, ?_⟩ hSh0 ?_
  rotate_left
  · intro w' hw'; obtain ⟨x0, x1⟩ := hw'; go_simp; (try with_reducible rfl)
  simp only [Act.put, List.setIfInBounds_toArray, List.set_cons_zero, List.set_cons_succ]
  refine held_take (v := ?_) 6 22 rfl rfl (by kernel_rfl) (by kernel_rfl) (by kernel_rfl) (fun _ _ _ h => h) ⟨by rfl, ?_⟩ hSh0 ?_
  rotate_left
  · intro w' hw'; obtain ⟨x0, x1⟩ := hw'; go_simp; (try with_reducible rfl)
  simp only [Act.put, List.setIfInBounds_toArray, List.set_cons_zero, List.set_cons_succ]
  refine held_take (v := ?_) 7 23 rfl rfl (by kernel_rfl) (by kernel_rfl) (by kernel_rfl) (fun _ _ _ h => h) ⟨by rfl, ?_⟩ hSh0 ?_
  rotate_left
  · intro w' hw'; obtain ⟨x0, x1⟩ := hw'; go_simp; (try with_reducible rfl)
  simp only [Act.put, List.setIfInBounds_toArray, List.set_cons_zero, List.set_cons_succ]
  refine held_take (v := ?_) 8 24 rfl rfl (by kernel_rfl) (by kernel_rfl) (by kernel_rfl) (fun _ _ _ h => h) ⟨by rfl, ?_⟩ hSh0 ?_
  rotate_left
  · intro w' hw'; obtain ⟨x0, x1⟩ := hw'; go_simp; (try with_reducible rfl)
  simp only [Act.put, List.setIfInBounds_toArray, List.set_cons_zero, List.set_cons_succ]
  refine held_one 9 rfl (by kernel_rfl) (by rfl) (fun K hK => ?_)
  go_simp
  go_at_call 18
  refine (HL.out w.drew hBh0).mono ?_
  rintro e w' ⟨rfl, rfl⟩
  refine hK.out _ _ hSh0 ?_
  clear hK K
  refine held_take (v := ?_) 10 26 rfl rfl (by kernel_rfl) (by kernel_rfl) (by kernel_rfl) (fun _ _ _ h => h) ⟨by rfl, ?_⟩ hSh0 ?_
  rotate_left
  · intro w' hw'; obtain ⟨x0, x1⟩ := hw'; go_simp; (try with_reducible rfl)
  simp only [Act.put, List.setIfInBounds_toArray, List.set_cons_zero, List.set_cons_succ]
  refine held_take (v := ?_) 11 4 rfl rfl (by kernel_rfl) (by kernel_rfl) (by kernel_rfl) (fun _ _ _ h => h) ⟨by rfl, ?_⟩ hSh0 ?_
  rotate_left
  · intro w' hw'; obtain ⟨x0, x1⟩ := hw'; go_simp; (try with_reducible rfl)
  simp only [Act.put, List.setIfInBounds_toArray, List.set_cons_zero, List.set_cons_succ]
  refine wpAnyH_done (by kernel_rfl) ?_ _
  go_wp2
  go_ret
  refine ⟨?_, hBh0⟩
  rw [← HE.out.1, ← HE.out.2]
  rfl
set_option maxHeartbeats 4000000 in
theorem rget_q (r c n cl : Nat) (A AL : Option Addr) (R : List Int) (L : List Wt) (id : Int) (w : World) (h : RqAt w r A c n AL cl L) (hI : QL.Inv R L) :
    Calls Try.prog 29 #[.pointer (some ⟨r, 0, none⟩), .int .i64 id] w fun e w' => e = .returned (.tuple #[wtV (QL.getW L id), .int .i64 (QL.getE L id)]) ∧ Below w.heap.size w w' := by
  have hB1 := (Below.refl w.heap.size w).alloc (Nat.le_refl _) (wtO QL.zw)
  have HZ1 := Lib.hid (wt_new w QL.zw)
  have HB1 := Lib.hid hB1
  have h2 := h.keep hB1
  have HF := Lib.hid (rfind_q r c n cl A AL L id _ h2)
  obtain ⟨_, c1, _, _⟩ := h2.head
  have hfew := h.few
  have hcm := h.cm
  unfold maxLen at hcm
  have hroom := h.room
  obtain ⟨m, hm⟩ : ∃ m, m = L.length := ⟨_, rfl⟩
  rw [← hm] at c1 hfew hroom
  have H := Lib.hid (And.intro h2 (And.intro hm hI))
  clear h hB1 h2 hm hI
  simp only [wtV, wtA, wtO, QL.zw] at *
  go_enter Try.func29, Try.ntmps29
  go_wp2_with fail
  refine HF.out.mono ?_
  rintro e w2 ⟨rfl, hfo⟩
  clear HF
  rcases hfo with ⟨hno, rfl⟩ | ⟨k, x, hx, hid, rfl⟩
  · have HE := Lib.hid (QL.get_no hno)
    clear hno
    go_wp2_with (refine wpList_store_wt rfl _ _ rfl w.heap.size QL.zw rfl rfl QL.zw HZ1.out ?_)
    refine bodyPost_ret (results_wt Try.results29 _ _ w.heap.size QL.zw (.int .i64 3) rfl (setRow_wt HZ1.out) rfl) rfl ?_
    refine ⟨?_, below_row HB1.out (Nat.le_refl _) _⟩
    rw [HE.out.1, HE.out.2]; rfl
  · have HE := Lib.hid (show QL.getW L id = x ∧ QL.getE L id = 0 by rw [← hid]; exact H.out.2.2.getW (List.mem_of_getElem? hx))
    obtain ⟨b, off, rfl, hb, hcc⟩ := H.out.1.row.at_ hx
    have hkm : k < m := by rw [H.out.2.1]; exact (List.getElem?_eq_some_iff.1 hx).1
    have t0 : decide ((k : Int) < 0) = false := decide_eq_false (by omega)
    have hcx := hcc k x hx
    have a0 : (w.alloc (.cells #[.int .i64 0, .int .i64 0, .int .i64 0, .int .i64 0, .int .i64 0, .int .i64 0, .int .i64 0, .int .i64 0, .int .i64 0, .int .i64 0] 39)).cell? ⟨b, off + k * 10, none⟩ = some (.int .i64 x.id) := hcx 0 _ rfl
    have a1 : (w.alloc (.cells #[.int .i64 0, .int .i64 0, .int .i64 0, .int .i64 0, .int .i64 0, .int .i64 0, .int .i64 0, .int .i64 0, .int .i64 0, .int .i64 0] 39)).cell? ⟨b, off + k * 10 + 1, none⟩ = some (.int .i64 x.q) := hcx 1 _ rfl
    have a2 : (w.alloc (.cells #[.int .i64 0, .int .i64 0, .int .i64 0, .int .i64 0, .int .i64 0, .int .i64 0, .int .i64 0, .int .i64 0, .int .i64 0, .int .i64 0] 39)).cell? ⟨b, off + k * 10 + 2, none⟩ = some (.int .i64 x.p) := hcx 2 _ rfl
    have a3 : (w.alloc (.cells #[.int .i64 0, .int .i64 0, .int .i64 0, .int .i64 0, .int .i64 0, .int .i64 0, .int .i64 0, .int .i64 0, .int .i64 0, .int .i64 0] 39)).cell? ⟨b, off + k * 10 + 3, none⟩ = some (.int .i64 x.r) := hcx 3 _ rfl
    have a4 : (w.alloc (.cells #[.int .i64 0, .int .i64 0, .int .i64 0, .int .i64 0, .int .i64 0, .int .i64 0, .int .i64 0, .int .i64 0, .int .i64 0, .int .i64 0] 39)).cell? ⟨b, off + k * 10 + 4, none⟩ = some (.int .i64 x.g) := hcx 4 _ rfl
    have a5 : (w.alloc (.cells #[.int .i64 0, .int .i64 0, .int .i64 0, .int .i64 0, .int .i64 0, .int .i64 0, .int .i64 0, .int .i64 0, .int .i64 0, .int .i64 0] 39)).cell? ⟨b, off + k * 10 + 5, none⟩ = some (.int .i64 x.c) := hcx 5 _ rfl
    have a6 : (w.alloc (.cells #[.int .i64 0, .int .i64 0, .int .i64 0, .int .i64 0, .int .i64 0, .int .i64 0, .int .i64 0, .int .i64 0, .int .i64 0, .int .i64 0] 39)).cell? ⟨b, off + k * 10 + 6, none⟩ = some (.int .i64 x.mn) := hcx 6 _ rfl
    have a7 : (w.alloc (.cells #[.int .i64 0, .int .i64 0, .int .i64 0, .int .i64 0, .int .i64 0, .int .i64 0, .int .i64 0, .int .i64 0, .int .i64 0, .int .i64 0] 39)).cell? ⟨b, off + k * 10 + 7, none⟩ = some (.int .i64 x.mx) := hcx 7 _ rfl
    have a8 : (w.alloc (.cells #[.int .i64 0, .int .i64 0, .int .i64 0, .int .i64 0, .int .i64 0, .int .i64 0, .int .i64 0, .int .i64 0, .int .i64 0, .int .i64 0] 39)).cell? ⟨b, off + k * 10 + 8, none⟩ = some (.int .i64 x.s) := hcx 8 _ rfl
    have a9 : (w.alloc (.cells #[.int .i64 0, .int .i64 0, .int .i64 0, .int .i64 0, .int .i64 0, .int .i64 0, .int .i64 0, .int .i64 0, .int .i64 0, .int .i64 0] 39)).cell? ⟨b, off + k * 10 + 9, none⟩ = some (.int .i64 x.n) := hcx 9 _ rfl
    clear hx hid hcc hcx hb
    go_wp2_with (refine wpList_store_wt rfl _ _ rfl w.heap.size x rfl rfl QL.zw HZ1.out ?_)
    refine bodyPost_ret (results_wt Try.results29 _ _ w.heap.size x (.int .i64 0) rfl (setRow_wt HZ1.out) rfl) rfl ?_
    refine ⟨?_, below_row HB1.out (Nat.le_refl _) _⟩
    rw [HE.out.1, HE.out.2]; rfl
end Go.Proofs.Ytdeniikaddlifaa
