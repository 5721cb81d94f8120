/- Each queue takes just so many as it has room for; emptied, it takes as many again: the law QueueFills answers true, at every input. -/
import Derived.Test.YtdeniikaddlifaaFrame
import Derived.Test.YtdeniikaddlifaaHeldOn
import Derived.Test.YtdeniikaddlifaaQuFillM
import Derived.Test.YtdeniikaddlifaaQuAwake
set_option linter.unusedVariables false
namespace Go.Proofs.Ytdeniikaddlifaa.queueFills
open Go Go.ChangeShapes Go.WideShapes Go.ChangeAt Go.RowKit
theorem decide_le_int {a b : Int} (h : a ≤ b) : decide (a ≤ b) = true := decide_eq_true h
set_option maxRecDepth 100000 in
set_option maxHeartbeats 8000000 in
theorem walk (A : Option Addr) (c : Nat) (R : List Int) (kq : Int) (w : World) (hv : Nums w w.heap.size A R) (hq : ∀ a ∈ R, (Lit.int .i64 a).wf = true) (lc : R.length ≤ c) (mc : c ≤ maxLen) (wk : (Lit.int .i64 kq).wf = true) :
    Calls Try.prog 7 #[.slice A R.length c, .int .i64 kq] w fun e w' => e = .returned (.bool true) ∧ Below w.heap.size w w' := by
  have AW := Lib.hid (fun W => awake_q W)
  unfold maxLen at mc
  obtain ⟨n, hn⟩ : ∃ n, n = R.length := ⟨_, rfl⟩
  have HRi := Lib.hid (fun W (hW : Below w.heap.size w W) => right_r A c R W (hv.keep hW hW.size) (by omega))
  have HNe := Lib.hid (fun W (hW : Below w.heap.size w W) (h : R.length ≤ 1000000) => new_i A c R w W hW (hv.keep hW hW.size) h)
  have H := Lib.hid (And.intro hv hn)
  rw [← hn] at HRi HNe lc ⊢
  clear hv hn hq
  have START : Hid (∀ {K : Prop}, K → K) := Lib.hid (fun k => k)
  clear START
  go_enter Try.func7, Try.ntmps7
  go_wp2_with fail
  refine (AW.out _).mono ?_
  rintro e w1 ⟨rfl, hb1⟩
  have HB1 := Lib.hid hb1
  have hRi := HRi.out w1 hb1
  clear hb1 AW HRi
  go_wp2_with fail
  refine hRi.mono ?_
  rintro e w2 ⟨rfl, hb2⟩
  have HB2 := Lib.hid (below_step HB1.out hb2)
  clear hb2 hRi HB1
  obtain ⟨rg, hrg⟩ : ∃ rg, rg = QL.right R := ⟨_, rfl⟩
  rw [← hrg]
  have HRG := Lib.hid hrg
  clear hrg
  cases rg
  · go_wp2
    go_ret
    exact ⟨by first | rfl | (simp; done), HB2.out⟩
  by_cases h0 : kq < 0
  · have t0 : decide (kq < 0) = true := decide_eq_true h0
    go_wp2
    go_ret
    exact ⟨by first | rfl | (simp; done), HB2.out⟩
  have t0 : decide (kq < 0) = false := decide_eq_false h0
  by_cases h1 : (n : Int) ≤ kq
  · have t1 : decide ((n : Int) ≤ kq) = true := decide_eq_true h1
    go_wp2
    go_ret
    exact ⟨by first | rfl | (simp; done), HB2.out⟩
  have t1 : decide ((n : Int) ≤ kq) = false := decide_eq_false h1
  obtain ⟨k, rfl⟩ : ∃ k : Nat, kq = k := ⟨kq.toNat, by omega⟩
  have hRt := QL.right_iff.1 HRG.out.symm
  have hn8 : n ≤ 8 := by rw [H.out.2]; exact hRt.hi
  have hkR : k < R.length := by rw [← H.out.2]; omega
  obtain ⟨r1, r2, r3⟩ := hRt.of R k hkR
  obtain ⟨r, hr⟩ : ∃ r : Nat, (r : Int) = QL.roomOf R k := ⟨(QL.roomOf R k).toNat, by omega⟩
  rw [← hr] at r3
  have hr16 : r ≤ 16 := by omega
  obtain ⟨b, off, rfl, hb, hcc⟩ := H.out.1.at_ r3
  have HC := Lib.hid (And.intro (hcc k _ r3) hb)
  have HK := Lib.hid (And.intro hkR hr)
  have hNe := HNe.out w2 HB2.out (by omega)
  have hkn : k < n := by omega
  clear hRt r1 r2 r3 hr hcc hb hkR HNe h0 h1
  go_wp2_with fail
  refine hNe.mono ?_
  rintro e w3 (⟨hbad, _⟩ | ⟨_, p, rfl, hQ⟩)
  · rw [← HRG.out] at hbad; cases hbad
  have HAf : Hid (∀ (a : Nat) W, QuIn w W p R (QL.fl k a r) → Calls Try.prog 25 #[.pointer (some ⟨p, 0, none⟩), .agg #[.int .i64 (-1), .int .i64 (k : Int), .int .i64 0, .int .i64 0, .int .i64 0, .int .i64 0, .int .i64 0, .int .i64 0, .int .i64 0, .int .i64 0]] W fun e w' => e = .returned (.int .i64 2) ∧ QuIn w w' p R (QL.fl k a r) ∧ Foot (fun i => w.heap.size ≤ i) W w') := Lib.hid (fun a W hW => by
    have := add_f p R (QL.fl k a r) ⟨-1, k, 0, 0, 0, 0, 0, 0, 0, 0⟩ w W hW
    have e := QL.fill_full (a := (a : Int)) HK.out.1 HK.out.2 (by omega)
    rw [e.1, e.2] at this
    exact this)
  have HAd : Hid (∀ (a i m : Nat) W, QuIn w W p R (QL.fl k a i) → i < r → m = a + i → Calls Try.prog 25 #[.pointer (some ⟨p, 0, none⟩), .agg #[.int .i64 ((m : Int) + 1), .int .i64 (k : Int), .int .i64 0, .int .i64 0, .int .i64 0, .int .i64 0, .int .i64 0, .int .i64 0, .int .i64 0, .int .i64 ((m : Int) + 1)]] W fun e w' => e = .returned (.int .i64 0) ∧ QuIn w w' p R (QL.fl k a (i + 1))) := Lib.hid (fun a i m W hW hi hm => by
    have := add_i p R (QL.fl k a i) (QL.fw k ((a : Int) + 1 + (i : Nat))) w W hW
    have e := QL.fill_add (a := (a : Int)) (n := i) HK.out.1 (by rw [← HK.out.2]; omega)
    rw [e.1, e.2] at this
    rw [show (a : Int) + 1 + (i : Nat) = (m : Int) + 1 by omega] at this
    exact this)
  have HRm : Hid (∀ (a i s m : Nat) W, QuIn w W p R (QL.fl k a (s + 1)) → m = a + r → i + (s + 1) = r → Calls Try.prog 24 #[.pointer (some ⟨p, 0, none⟩), .int .i64 ((m : Int) - (i : Int))] W fun e w' => e = .returned (.tuple #[.agg #[.int .i64 ((m : Int) - (i : Int)), .int .i64 (k : Int), .int .i64 0, .int .i64 0, .int .i64 0, .int .i64 0, .int .i64 0, .int .i64 0, .int .i64 0, .int .i64 ((m : Int) - (i : Int))], .int .i64 0]) ∧ QuIn w w' p R (QL.fl k a s)) := Lib.hid (fun a i s m W hW hm hi => by
    have := remove_i p R (QL.fl k a (s + 1)) ((a : Int) + 1 + (s : Nat)) w W hW
    have e := QL.fill_take (k := k) (a := (a : Int)) (n := s)
    rw [e.1, e.2.1, e.2.2] at this
    rw [show (a : Int) + 1 + (s : Nat) = (m : Int) - (i : Int) by omega] at this
    exact this)
  have hasK : QL.hasQ R (k : Int) = true := QL.hasQ_iff.2 ⟨by omega, by have := HK.out.1; omega⟩
  have HRoom : Hid (∀ (a : Nat) W, QuIn w W p R (QL.fl k a r) → Calls Try.prog 16 #[.pointer (some ⟨p, 0, none⟩), .int .i64 (k : Int)] W fun e w' => e = .returned (.int .i64 0) ∧ Below W.heap.size W w') := Lib.hid (fun a W hW => by
    have := room_i p R (QL.fl k a r) k w W hW
    unfold QL.roomQ at this
    rw [hasK, if_pos rfl, Int.toNat_natCast, QL.fl_row, QL.fl_len, ← HK.out.2, Int.sub_self] at this
    exact this)
  have HLen : Hid (∀ (a : Nat) W, QuIn w W p R (QL.fl k a r) → Calls Try.prog 19 #[.pointer (some ⟨p, 0, none⟩), .int .i64 (k : Int)] W fun e w' => e = .returned (.int .i64 (r : Int)) ∧ W = w') := Lib.hid (fun a W hW => by
    have := len_i p R (QL.fl k a r) k w W hW
    unfold QL.lenQ at this
    rw [hasK, if_pos rfl, Int.toNat_natCast, QL.fl_row, QL.fl_len] at this
    exact this)
  have HRo0 : Hid (∀ W, QuIn w W p R [] → Calls Try.prog 16 #[.pointer (some ⟨p, 0, none⟩), .int .i64 (k : Int)] W fun e w' => e = .returned (.int .i64 (r : Int)) ∧ Below W.heap.size W w') := Lib.hid (fun W hW => by
    have := room_i p R [] k w W hW
    unfold QL.roomQ at this
    rw [hasK, if_pos rfl, Int.toNat_natCast, show (QL.rowL [] k).length = 0 from rfl, ← HK.out.2] at this
    rwa [show (r : Int) - ((0 : Nat) : Int) = r by omega] at this)
  have HAll : Hid (∀ W, QuIn w W p R [] → Calls Try.prog 14 #[.pointer (some ⟨p, 0, none⟩)] W fun e w' => ∃ A c, e = .returned (.slice A 0 c) ∧ Below W.heap.size W w') := Lib.hid (fun W hW => by
    refine (all_i p R [] w W hW).mono ?_
    rintro e w' ⟨A, c, rfl, _, _, _, hb⟩
    have : (QL.allL R.length []).length = 0 := by have := QL.fl_all (R := R) (k := 0) (a := 0); rw [show QL.fl 0 0 0 = [] from rfl] at this; rw [this]; rfl
    rw [this]
    exact ⟨A, c, rfl, hb⟩)
  have HQ := Lib.hid hQ
  clear hQ hNe hasK
  go_wp2
  go_loopw [7, 8] (fun va vt wr => ∃ (t a : Nat), va = .int .i64 (a : Nat) ∧ vt = .int .i64 (t : Nat) ∧ t ≤ 2 ∧ a ≤ t * 16 ∧ Hid (QuIn w wr p R [])) (fun _ vt _ => 2 - (intOf vt).toNat)
  case atStart => exact ⟨0, 0, rfl, rfl, by omega, by omega, HQ⟩
  case round =>
    clear HQ
    obtain ⟨t, a, rfl, rfl, ht2, ha, HQ⟩ := hrel
    by_cases htl : t < 2
    · have t2 : decide ((t : Int) < 2) = true := decide_eq_true (by omega)
      have HQ0 : Hid (QuIn w wr p R (QL.fl k a 0)) := Lib.hid (by exact HQ.out)
      clear HQ
      go_wp2
      go_loopw [7, 9] (fun va vi wr => ∃ (m i : Nat), va = .int .i64 (m : Nat) ∧ vi = .int .i64 (i : Nat) ∧ i ≤ r ∧ m = a + i ∧ Hid (QuIn w wr p R (QL.fl k a i))) (fun _ vi _ => r - (intOf vi).toNat)
      case atStart => exact ⟨a, 0, rfl, rfl, by omega, by omega, HQ0⟩
      case round =>
        clear HQ0
        obtain ⟨m, i, rfl, rfl, hir, hm, HQ⟩ := hrel
        have Hm := Lib.hid hm
        have hm48 : m ≤ a + 16 := by omega
        clear hm
        have hnb : ¬ w.heap.size ≤ b := by have := HC.out.2; omega
        have lb : b < wr.heap.size := Nat.lt_of_lt_of_le HC.out.2 HQ.out.b.size
        have a0 : wr.cell? ⟨b, off + k, none⟩ = some (.int .i64 (r : Int)) := by
          have := HC.out.1.keep HC.out.2 HQ.out.b 0 _ rfl
          rwa [Nat.mul_one] at this
        by_cases hlt : i < r
        · have t3 : decide (i < r) = true := decide_eq_true hlt
          have hA := HAd.out a i m wr HQ.out hlt Hm.out
          clear HQ
          go_wp2_with fail
          refine hA.mono ?_
          rintro e w4 ⟨rfl, hQ4⟩
          have HQ4 := Lib.hid hQ4
          clear hQ4 hA a0
          go_wp2
          go_roundw
          case rel => exact ⟨m + 1, i + 1, by go_num, by go_num, by omega, by have := Hm.out; omega, HQ4⟩
          case measure => simp [intOf]; omega
        · obtain rfl : r = i := by omega
          have t3 : decide (r < r) = false := decide_eq_false hlt
          have HAf := Lib.hid (HAf.out a)
          have HRo := Lib.hid (HRoom.out a)
          have HLe := Lib.hid (HLen.out a)
          have HQ18 : Hid (QuIn w wr.drew p R (QL.fl k a r)) := Lib.hid (HQ.out.keep (Below.refl _ _).drew)
          clear HQ
          go_wp2_with fail
          refine held_begin (fun w' : World => w'.cell? ⟨b, off + k, none⟩ = some (.int .i64 r)) (by kernel_rfl) ?_
          have hBh0 : Foot (fun i => w.heap.size ≤ i) wr wr.drew := (Foot.refl _ _).drew
          have hSh0 : (fun w' : World => w'.cell? ⟨b, off + k, none⟩ = some (.int .i64 r)) wr.drew := a0
          refine held_take (v := ?_) 0 61 rfl rfl (by kernel_rfl) (by kernel_rfl) (by kernel_rfl) (fun _ _ _ h => h) ⟨by rfl, ?_⟩ hSh0 ?_
          rotate_left
          · intro w' hw'; obtain x0 := hw'; go_simp; (try with_reducible rfl)
          simp only [Act.put, List.setIfInBounds_toArray, List.set_cons_zero, List.set_cons_succ]
          refine held_take (v := ?_) 1 62 rfl rfl (by kernel_rfl) (by kernel_rfl) (by kernel_rfl) (fun _ _ _ h => h) ⟨by rfl, ?_⟩ hSh0 ?_
          rotate_left
          · intro w' hw'; obtain x0 := hw'; go_simp; (try with_reducible rfl)
          simp only [Act.put, List.setIfInBounds_toArray, List.set_cons_zero, List.set_cons_succ]
          refine held_take (v := ?_) 2 63 rfl rfl (by kernel_rfl) (by kernel_rfl) (by kernel_rfl) (fun _ _ _ h => h) ⟨by rfl, ?_⟩ hSh0 ?_
          rotate_left
          · intro w' hw'; obtain x0 := hw'; go_simp; (try with_reducible rfl)
          simp only [Act.put, List.setIfInBounds_toArray, List.set_cons_zero, List.set_cons_succ]
          refine held_take (v := ?_) 3 64 rfl rfl (by kernel_rfl) (by kernel_rfl) (by kernel_rfl) (fun _ _ _ h => h) ⟨by rfl, ?_⟩ hSh0 ?_
          rotate_left
          · intro w' hw'; obtain x0 := hw'; go_simp; (try with_reducible rfl)
          simp only [Act.put, List.setIfInBounds_toArray, List.set_cons_zero, List.set_cons_succ]
          refine held_one 4 rfl (by kernel_rfl) (by rfl) (fun K hK => ?_)
          go_simp
          go_at_call 25
          refine (HAf.out wr.drew HQ18.out ).mono ?_
          rintro e wh1 ⟨rfl, hqa, hbh1⟩
          have hBh1 : Foot (fun i => w.heap.size ≤ i) wr wh1 := hBh0.trans hbh1 (fun i hi => .inl hi)
          have hSh1 : (fun w' : World => w'.cell? ⟨b, off + k, none⟩ = some (.int .i64 r)) wh1 := (hBh1.cell (p := ⟨b, off + k, none⟩) (lb) (hnb)).trans a0
          have HQwh1 := Lib.hid hqa
          clear hqa
          refine hK.out _ _ hSh1 ?_
          clear hK K
          refine held_take (v := ?_) 5 66 rfl rfl (by kernel_rfl) (by kernel_rfl) (by kernel_rfl) (fun _ _ _ h => h) ⟨by rfl, ?_⟩ hSh1 ?_
          rotate_left
          · intro w' hw'; obtain x0 := hw'; go_simp; (try with_reducible rfl)
          simp only [Act.put, List.setIfInBounds_toArray, List.set_cons_zero, List.set_cons_succ]
          refine held_take (v := ?_) 6 67 rfl rfl (by kernel_rfl) (by kernel_rfl) (by kernel_rfl) (fun _ _ _ h => h) ⟨by rfl, ?_⟩ hSh1 ?_
          rotate_left
          · intro w' hw'; obtain x0 := hw'; go_simp; (try with_reducible rfl)
          simp only [Act.put, List.setIfInBounds_toArray, List.set_cons_zero, List.set_cons_succ]
          refine held_take (v := ?_) 7 68 rfl rfl (by kernel_rfl) (by kernel_rfl) (by kernel_rfl) (fun _ _ _ h => h) ⟨by rfl, ?_⟩ hSh1 ?_
          rotate_left
          · intro w' hw'; obtain x0 := hw'; go_simp; (try with_reducible rfl)
          simp only [Act.put, List.setIfInBounds_toArray, List.set_cons_zero, List.set_cons_succ]
          refine held_take (v := ?_) 8 69 rfl rfl (by kernel_rfl) (by kernel_rfl) (by kernel_rfl) (fun _ _ _ h => h) ⟨by rfl, ?_⟩ hSh1 ?_
          rotate_left
          · intro w' hw'; obtain x0 := hw'; go_simp; (try with_reducible rfl)
          simp only [Act.put, List.setIfInBounds_toArray, List.set_cons_zero, List.set_cons_succ]
          refine held_one 9 rfl (by kernel_rfl) (by rfl) (fun K hK => ?_)
          go_simp
          go_at_call 16
          refine (HRo.out wh1 HQwh1.out).mono ?_
          rintro e wh2 ⟨rfl, hbh2⟩
          have hBh2 : Foot (fun i => w.heap.size ≤ i) wr wh2 := hBh1.trans (Foot.of_below (F := fun _ => False) hbh2) (fun i hi => hi.elim)
          have hSh2 : (fun w' : World => w'.cell? ⟨b, off + k, none⟩ = some (.int .i64 r)) wh2 := (hBh2.cell (p := ⟨b, off + k, none⟩) (lb) (hnb)).trans a0
          have HQwh2 := Lib.hid (HQwh1.out.keep hbh2)
          refine hK.out _ _ hSh2 ?_
          clear hK K
          refine held_take (v := ?_) 10 71 rfl rfl (by kernel_rfl) (by kernel_rfl) (by kernel_rfl) (fun _ _ _ h => h) ⟨by rfl, ?_⟩ hSh2 ?_
          rotate_left
          · intro w' hw'; obtain x0 := hw'; go_simp; (try with_reducible rfl)
          simp only [Act.put, List.setIfInBounds_toArray, List.set_cons_zero, List.set_cons_succ]
          refine held_take (v := ?_) 11 72 rfl rfl (by kernel_rfl) (by kernel_rfl) (by kernel_rfl) (fun _ _ _ h => h) ⟨by rfl, ?_⟩ hSh2 ?_
          rotate_left
          · intro w' hw'; obtain x0 := hw'; go_simp; (try with_reducible rfl)
          simp only [Act.put, List.setIfInBounds_toArray, List.set_cons_zero, List.set_cons_succ]
          refine held_take (v := ?_) 12 73 rfl rfl (by kernel_rfl) (by kernel_rfl) (by kernel_rfl) (fun _ _ _ h => h) ⟨by rfl, ?_⟩ hSh2 ?_
          rotate_left
          · intro w' hw'; obtain x0 := hw'; go_simp; (try with_reducible rfl)
          simp only [Act.put, List.setIfInBounds_toArray, List.set_cons_zero, List.set_cons_succ]
          refine held_take (v := ?_) 13 74 rfl rfl (by kernel_rfl) (by kernel_rfl) (by kernel_rfl) (fun _ _ _ h => h) ⟨by rfl, ?_⟩ hSh2 ?_
          rotate_left
          · intro w' hw'; obtain x0 := hw'; go_simp; (try with_reducible rfl)
          simp only [Act.put, List.setIfInBounds_toArray, List.set_cons_zero, List.set_cons_succ]
          refine held_take (v := ?_) 14 75 rfl rfl (by kernel_rfl) (by kernel_rfl) (by kernel_rfl) (fun _ _ _ h => h) ⟨by rfl, ?_⟩ hSh2 ?_
          rotate_left
          · intro w' hw'; obtain x0 := hw'; go_simp; (try with_reducible rfl)
          simp only [Act.put, List.setIfInBounds_toArray, List.set_cons_zero, List.set_cons_succ]
          refine held_take (v := ?_) 16 77 rfl rfl (by kernel_rfl) (by kernel_rfl) (by kernel_rfl) (fun _ _ _ h => h) ⟨by rfl, ?_⟩ hSh2 ?_
          rotate_left
          · intro w' hw'; obtain x0 := hw'; go_simp; (try with_reducible rfl)
          simp only [Act.put, List.setIfInBounds_toArray, List.set_cons_zero, List.set_cons_succ]
          refine held_take (v := ?_) 17 78 rfl rfl (by kernel_rfl) (by kernel_rfl) (by kernel_rfl) (fun _ _ _ h => h) ⟨by rfl, ?_⟩ hSh2 ?_
          rotate_left
          · intro w' hw'; obtain x0 := hw'; go_simp; (try with_reducible rfl)
          simp only [Act.put, List.setIfInBounds_toArray, List.set_cons_zero, List.set_cons_succ]
          refine held_take (v := ?_) 18 79 rfl rfl (by kernel_rfl) (by kernel_rfl) (by kernel_rfl) (fun _ _ _ h => h) ⟨by rfl, ?_⟩ hSh2 ?_
          rotate_left
          · intro w' hw'; obtain x0 := hw'; go_simp; (try with_reducible rfl)
          simp only [Act.put, List.setIfInBounds_toArray, List.set_cons_zero, List.set_cons_succ]
          refine held_take (v := ?_) 19 80 rfl rfl (by kernel_rfl) (by kernel_rfl) (by kernel_rfl) (fun _ _ _ h => h) ⟨by rfl, ?_⟩ hSh2 ?_
          rotate_left
          · intro w' hw'; obtain x0 := hw'; go_simp; (try with_reducible rfl)
          simp only [Act.put, List.setIfInBounds_toArray, List.set_cons_zero, List.set_cons_succ]
          refine held_one 15 rfl (by kernel_rfl) (by rfl) (fun K hK => ?_)
          go_simp
          go_at_call 19
          refine (HLe.out wh2 HQwh2.out).mono ?_
          rintro e w' ⟨rfl, rfl⟩
          refine hK.out _ _ hSh2 ?_
          clear hK K
          refine held_take (v := ?_) 20 81 rfl rfl (by kernel_rfl) (by kernel_rfl) (by kernel_rfl) (fun _ _ _ h => h) ⟨by rfl, ?_⟩ hSh2 ?_
          rotate_left
          · intro w' hw'; obtain x0 := hw'; go_simp; (try with_reducible rfl)
          simp only [Act.put, List.setIfInBounds_toArray, List.set_cons_zero, List.set_cons_succ]
          refine held_take (v := ?_) 21 82 rfl rfl (by kernel_rfl) (by kernel_rfl) (by kernel_rfl) (fun _ _ _ h => h) ⟨by rfl, ?_⟩ hSh2 ?_
          rotate_left
          · intro w' hw'; obtain x0 := hw'; go_simp; (try with_reducible rfl)
          simp only [Act.put, List.setIfInBounds_toArray, List.set_cons_zero, List.set_cons_succ]
          refine wpAnyH_done (by kernel_rfl) ?_ _
          have HQz := HQwh2
          clear hSh0
          go_wp2
          go_loopw [10] (fun vi wr => ∃ (i u : Nat), vi = .int .i64 (i : Nat) ∧ i + u = r ∧ Hid (QuIn w wr p R (QL.fl k a u))) (fun vi _ => r - (intOf vi).toNat)
          case atStart => exact ⟨0, r, rfl, by omega, HQz⟩
          case round =>
            clear HQz
            obtain ⟨i, u, rfl, hiu, HQ⟩ := hrel
            have lb : b < wr.heap.size := Nat.lt_of_lt_of_le HC.out.2 HQ.out.b.size
            have a0 : wr.cell? ⟨b, off + k, none⟩ = some (.int .i64 (r : Int)) := by
              have := HC.out.1.keep HC.out.2 HQ.out.b 0 _ rfl
              rwa [Nat.mul_one] at this
            cases u with
            | succ s =>
              have t4 : decide (i < r) = true := decide_eq_true (by omega)
              have hsub : IntKind.i64.wrap ((m : Int) - (i : Int)) = (m : Int) - i := IntWalk.i64_in _ (by omega)
              have hA := HRm.out a i s m wr HQ.out Hm.out hiu
              clear HQ
              go_wp2_with fail
              refine hA.mono ?_
              rintro e w4 ⟨rfl, hQ4⟩
              have HQ4 := Lib.hid (hQ4.keep ((Below.refl w4.heap.size w4).alloc (Nat.le_refl _) (.cells #[.int .i64 ((m : Int) - (i : Int)), .int .i64 (k : Int), .int .i64 0, .int .i64 0, .int .i64 0, .int .i64 0, .int .i64 0, .int .i64 0, .int .i64 0, .int .i64 ((m : Int) - (i : Int))] 39)))
              clear hQ4 hA a0
              go_wp2
              go_roundw
              case rel => exact ⟨i + 1, s, by go_num, by omega, HQ4⟩
              case measure => simp [intOf]; omega
            | zero =>
              obtain rfl : r = i := by omega
              have t4 : decide (r < r) = false := decide_eq_false (by omega)
              have HQ26 : Hid (QuIn w wr p R []) := Lib.hid HQ.out
              clear HQ
              go_wp2_with fail
              refine held_begin (fun w' : World => w'.cell? ⟨b, off + k, none⟩ = some (.int .i64 r)) (by kernel_rfl) ?_
              have hBh0 : Below wr.heap.size wr wr.drew := (Below.refl _ _).drew
              have hSh0 : (fun w' : World => w'.cell? ⟨b, off + k, none⟩ = some (.int .i64 r)) wr.drew := a0
              refine held_take (v := ?_) 0 109 rfl rfl (by kernel_rfl) (by kernel_rfl) (by kernel_rfl) (fun _ _ _ h => h) ⟨by rfl, ?_⟩ hSh0 ?_
              rotate_left
              · intro w' hw'; obtain x0 := hw'; go_simp; (try with_reducible rfl)
              simp only [Act.put, List.setIfInBounds_toArray, List.set_cons_zero, List.set_cons_succ]
              refine held_take (v := ?_) 1 110 rfl rfl (by kernel_rfl) (by kernel_rfl) (by kernel_rfl) (fun _ _ _ h => h) ⟨by rfl, ?_⟩ hSh0 ?_
              rotate_left
              · intro w' hw'; obtain x0 := hw'; go_simp; (try with_reducible rfl)
              simp only [Act.put, List.setIfInBounds_toArray, List.set_cons_zero, List.set_cons_succ]
              refine held_take (v := ?_) 3 112 rfl rfl (by kernel_rfl) (by kernel_rfl) (by kernel_rfl) (fun _ _ _ h => h) ⟨by rfl, ?_⟩ hSh0 ?_
              rotate_left
              · intro w' hw'; obtain x0 := hw'; go_simp; (try with_reducible rfl)
              simp only [Act.put, List.setIfInBounds_toArray, List.set_cons_zero, List.set_cons_succ]
              refine held_take (v := ?_) 4 113 rfl rfl (by kernel_rfl) (by kernel_rfl) (by kernel_rfl) (fun _ _ _ h => h) ⟨by rfl, ?_⟩ hSh0 ?_
              rotate_left
              · intro w' hw'; obtain x0 := hw'; go_simp; (try with_reducible rfl)
              simp only [Act.put, List.setIfInBounds_toArray, List.set_cons_zero, List.set_cons_succ]
              refine held_take (v := ?_) 5 114 rfl rfl (by kernel_rfl) (by kernel_rfl) (by kernel_rfl) (fun _ _ _ h => h) ⟨by rfl, ?_⟩ hSh0 ?_
              rotate_left
              · intro w' hw'; obtain x0 := hw'; go_simp; (try with_reducible rfl)
              simp only [Act.put, List.setIfInBounds_toArray, List.set_cons_zero, List.set_cons_succ]
              refine held_take (v := ?_) 6 115 rfl rfl (by kernel_rfl) (by kernel_rfl) (by kernel_rfl) (fun _ _ _ h => h) ⟨by rfl, ?_⟩ hSh0 ?_
              rotate_left
              · intro w' hw'; obtain x0 := hw'; go_simp; (try with_reducible rfl)
              simp only [Act.put, List.setIfInBounds_toArray, List.set_cons_zero, List.set_cons_succ]
              refine held_one 2 rfl (by kernel_rfl) (by rfl) (fun K hK => ?_)
              go_simp
              go_at_call 16
              refine (HRo0.out wr.drew (HQ26.out.keep hBh0)).mono ?_
              rintro e wh1 ⟨rfl, hbh1⟩
              have hBh1 : Below wr.heap.size wr wh1 := below_step hBh0 hbh1
              have hSh1 : (fun w' : World => w'.cell? ⟨b, off + k, none⟩ = some (.int .i64 r)) wh1 := (hBh1.cell (p := ⟨b, off + k, none⟩) (lb)).trans a0
              refine hK.out _ _ hSh1 ?_
              clear hK K
              refine held_take (v := ?_) 7 116 rfl rfl (by kernel_rfl) (by kernel_rfl) (by kernel_rfl) (fun _ _ _ h => h) ⟨by rfl, ?_⟩ hSh1 ?_
              rotate_left
              · intro w' hw'; obtain x0 := hw'; go_simp; (try with_reducible rfl)
              simp only [Act.put, List.setIfInBounds_toArray, List.set_cons_zero, List.set_cons_succ]
              refine held_take (v := ?_) 8 117 rfl rfl (by kernel_rfl) (by kernel_rfl) (by kernel_rfl) (fun _ _ _ h => h) ⟨by rfl, ?_⟩ hSh1 ?_
              rotate_left
              · intro w' hw'; obtain x0 := hw'; go_simp; (try with_reducible rfl)
              simp only [Act.put, List.setIfInBounds_toArray, List.set_cons_zero, List.set_cons_succ]
              refine held_take (v := ?_) 9 118 rfl rfl (by kernel_rfl) (by kernel_rfl) (by kernel_rfl) (fun _ _ _ h => h) ⟨by rfl, ?_⟩ hSh1 ?_
              rotate_left
              · intro w' hw'; obtain x0 := hw'; go_simp; (try with_reducible rfl)
              simp only [Act.put, List.setIfInBounds_toArray, List.set_cons_zero, List.set_cons_succ]
              refine held_one 10 rfl (by kernel_rfl) (by rfl) (fun K hK => ?_)
              go_simp
              go_at_call 14
              refine (HAll.out wh1 (HQ26.out.keep hBh1)).mono ?_
              rintro e wh2 ⟨Aq, cq, rfl, hbh2⟩
              have hBh2 : Below wr.heap.size wr wh2 := below_step hBh1 hbh2
              have hSh2 : (fun w' : World => w'.cell? ⟨b, off + k, none⟩ = some (.int .i64 r)) wh2 := (hBh2.cell (p := ⟨b, off + k, none⟩) (lb)).trans a0
              refine hK.out _ _ hSh2 ?_
              clear hK K
              refine held_take (v := ?_) 11 120 rfl rfl (by kernel_rfl) (by kernel_rfl) (by kernel_rfl) (fun _ _ _ h => h) ⟨by rfl, ?_⟩ hSh2 ?_
              rotate_left
              · intro w' hw'; obtain x0 := hw'; go_simp; (try with_reducible rfl)
              simp only [Act.put, List.setIfInBounds_toArray, List.set_cons_zero, List.set_cons_succ]
              refine held_take (v := ?_) 12 121 rfl rfl (by kernel_rfl) (by kernel_rfl) (by kernel_rfl) (fun _ _ _ h => h) ⟨by rfl, ?_⟩ hSh2 ?_
              rotate_left
              · intro w' hw'; obtain x0 := hw'; go_simp; (try with_reducible rfl)
              simp only [Act.put, List.setIfInBounds_toArray, List.set_cons_zero, List.set_cons_succ]
              refine held_take (v := ?_) 13 122 rfl rfl (by kernel_rfl) (by kernel_rfl) (by kernel_rfl) (fun _ _ _ h => h) ⟨by rfl, ?_⟩ hSh2 ?_
              rotate_left
              · intro w' hw'; obtain x0 := hw'; go_simp; (try with_reducible rfl)
              simp only [Act.put, List.setIfInBounds_toArray, List.set_cons_zero, List.set_cons_succ]
              refine wpAnyH_done (by kernel_rfl) ?_ _
              have HQe := Lib.hid (HQ26.out.keep hBh2)
              clear hSh0
              go_wp2
              go_roundw
              case rel => exact ⟨t + 1, m, by go_num, by go_num, by omega, by omega, HQe⟩
              case measure => simp [intOf]; omega
    · obtain rfl : t = 2 := by omega
      have HQB := Lib.hid HQ.out.b
      clear HQ
      go_wp2
      go_ret
      exact ⟨by first | rfl | (simp; done), HQB.out⟩

set_option maxRecDepth 100000 in
set_option maxHeartbeats 1000000 in
theorem lifted (os : Os) (started : os.Started) (H : Type) (enc : TypeId × Value → H) :
    ReturnsInHanded {} Try.checked os 7 .any (Rows.queueFillsSpec.pre6 enc Try.prog Try.f7 Rows.queueFillsRow.domain false) (Rows.queueFillsSpec.post enc Try.prog Try.f7 false true false false) := by
  refine returnsInHanded_of_change (C := Try.checked) own started (by kernel_rfl) Try.func7
    (ChangeSpec.witness6 (enc := enc) (C := Try.checked) false ⟨#[], #[.slice none 0 0, .int .i64 0], []⟩ 8 (by kernel_rfl) (by kernel_rfl) (by kernel_rfl) (by kernel_rfl)) ?_
  intro W base args ds gs before hval0 hW _ _
  have hval : ∀ (j : Nat) t v, Try.f7.params[j]? = some t → args[j]? = some v → Value.okWide Try.prog W .any base t v := hval0
  have hW' := hW
  obtain ⟨p, q, hA0, hV, rfl, hfz, hnd⟩ := hW
  have hA : DataW.TrodAll enc Try.prog W 0 (fun _ => true) true Try.f7.params.toList args.toList ds p := hA0
  rw [Try.params7] at hA hval
  obtain ⟨v0, vs0, d0, ds0, p0, q0, hargs, rfl, rfl, h0, r0⟩ := trodAll_cons hA
  obtain ⟨v1, vs1, d1, ds1, p1, q1, rfl, rfl, rfl, h1, r1⟩ := trodAll_cons r0
  obtain ⟨rfl, rfl, rfl⟩ := trodAll_nil r1
  obtain rfl : args = #[v0, v1] := by cases args; simp_all
  obtain ⟨rfl, rfl⟩ := trodVars_none hV
  have k0 := h0
  have lt0 : ∀ x ∈ p0, x.block < W.heap.size := by obtain ⟨m, hm⟩ := k0; exact DataW.trod_lt m _ _ _ hm
  obtain ⟨a0, c0, l0, rfl, lc0, mc0, v0, q0⟩ := nums_of (hval 0 22 v0 rfl rfl) h0
  have k1 := h1
  have lt1 : ∀ x ∈ p1, x.block < W.heap.size := by obtain ⟨m, hm⟩ := k1; exact DataW.trod_lt m _ _ _ hm
  obtain ⟨a1, rfl, _, _, w1⟩ := open_int Try.underlying3 (hval 1 3 v1 rfl rfl) h1
  clear hA0 hval0
  refine (walk a0 c0 l0 a1 W v0 q0 lc0 mc0 w1).mono fun e W' ⟨he, bel⟩ => ?_
  subst he
  exact ⟨_, rfl, _, _, _, [], _, [], hW', trodAll_mk1 (shut_bool Try.underlying4 _), (trodAll_cons_mk (Below.trod laidOut (by kernel_rfl) (of_decide_eq_true (by kernel_rfl)) k0 bel lt0) (trodAll_cons_mk (Below.trod laidOut (by kernel_rfl) (of_decide_eq_true (by kernel_rfl)) k1 bel lt1) trodAll_mk0)), rfl, bel.frame _, fun h => by cases h⟩

/-- THE STATEMENT. -/
theorem holds : Rows.QueueFillsSaid :=
  OpenClaim.holds_of_wide 7 Try.f7 rfl rfl rfl rfl rfl rfl rfl ⟨rfl, rfl, rfl, rfl, rfl⟩ rfl rfl rfl rfl rfl (by kernel_rfl) Try.func7 (by kernel_rfl)
    (of_decide_eq_true (by kernel_rfl)) (by unfold Func.isWrapper; first | (rw [if_pos (by decide +kernel)]; kernel_rfl) | (rw [if_neg (by decide +kernel)]; exact ⟨rfl, rfl⟩))
    (fun os started H enc _ => lifted os started H enc)
end Go.Proofs.Ytdeniikaddlifaa.queueFills
