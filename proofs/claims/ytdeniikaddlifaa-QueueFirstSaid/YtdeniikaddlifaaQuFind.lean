/- Queues: where the wait of an Id is. -/
import Derived.Test.YtdeniikaddlifaaQuAsk
namespace Go.Proofs.Ytdeniikaddlifaa
open Go.RowKit
/-- What a search tells: nothing, or a wait of that Id, at its place. -/
def FoundQ (R : List Int) (L : List Wt) (id : Int) (e : Ending) : Prop :=
  (QL.hasI L id = false ∧ e = .returned (.tuple #[.int .i64 0, .int .i64 0, .bool false])) ∨ ∃ (k i : Nat) (x : Wt), k < R.length ∧ (QL.rowL L k)[i]? = some x ∧ x.id = id ∧ e = .returned (.tuple #[.int .i64 k, .int .i64 i, .bool true])
theorem not_yet {R : List Int} {L : List Wt} {id : Int} (hi : QL.Inv R L) (h : ∀ k, k < R.length → ∀ x ∈ QL.rowL L k, x.id ≠ id) : QL.hasI L id = false := by
  rw [QL.hasI_false]
  intro x hx
  have hq := hi.q x hx
  exact h x.q.toNat (by omega) x (QL.mem_row.2 ⟨hx, by omega⟩)
set_option maxRecDepth 100000 in
set_option maxHeartbeats 4000000 in
theorem find_q (p g c : Nat) (V : Nat → Value) (R : List Int) (L : List Wt) (S : Nat) (id : Int) (w : World) (h : QuAt w p g c V R L) (hS : w.cell? ⟨S, 0, none⟩ = some (.int .i64 id)) :
    Calls Try.prog 33 #[.pointer (some ⟨p, 0, none⟩), .func (.func 42) #[] #[.pointer (some ⟨S, 0, none⟩)]] w fun e w' => FoundQ R L id e ∧ Below w.heap.size w w' := by
  have c0 := h.head
  have hr := h.inv.r.hi
  have HC := Lib.hid (fun x W => asked_cl S id x W)
  have lS := lt_of_cell hS
  obtain ⟨n, hn⟩ : ∃ n, n = R.length := ⟨_, rfl⟩
  rw [← hn] at c0 hr
  have H := Lib.hid (And.intro h (And.intro hS hn))
  have HB0 := Lib.hid (Below.refl w.heap.size w)
  have HI0 : Hid (∀ j, j < 0 → ∀ x ∈ QL.rowL L j, x.id ≠ id) := Lib.hid (fun j hj => by omega)
  clear h hS hn
  go_enter Try.func33, Try.ntmps33
  go_wp2
  go_step3
  go_wp2
  go_step3
  go_wp2
  go_loopg [4, 5, 6, 16] n (fun gh s4 s5 s6 s16 wx => ∃ k : Nat, k + gh = n ∧ s16 = .int .i64 k ∧ s4 = .int .i64 0 ∧ s5 = .int .i64 0 ∧ s6 = .bool false ∧ Hid (Below w.heap.size w wx) ∧ Hid (∀ j, j < k → ∀ x ∈ QL.rowL L j, x.id ≠ id))
  case atStart => exact ⟨0, by omega, rfl, rfl, rfl, rfl, HB0, HI0⟩
  case round =>
    clear HB0 HI0
    obtain ⟨k, hkg, rfl, rfl, rfl, rfl, hB, hI⟩ := hrel
    cases gk with
    | zero =>
      have t1 : decide (k < n) = false := decide_eq_false (by omega)
      have HE : Hid (QL.hasI L id = false) := Lib.hid (not_yet H.out.1.inv fun j hj => hI.out j (by have := H.out.2.2; omega))
      clear hI
      go_wp2
      try rw [Exit.noGoto_ret]
      refine bodyPost_ret (v := .tuple #[.int .i64 0, .int .i64 0, .bool false]) (by simp [results, Try.results33, go_sem]) rfl ?_
      exact ⟨.inl ⟨HE.out, rfl⟩, hB.out⟩
    | succ gh =>
      have hkn : k < n := by omega
      have hkR : k < R.length := by have := H.out.2.2; omega
      have t1 : decide (k < n) = true := decide_eq_true hkn
      have hq := H.out.1.keep hB.out
      obtain ⟨c1, c2, A, m, hV, h1, h2, h3, h4⟩ := hq.at_ hkR
      rw [hV] at c2
      obtain ⟨ro, hro⟩ : ∃ ro, ro = QL.roomOf R k := ⟨_, rfl⟩
      obtain ⟨u, hu⟩ : ∃ u, u = (QL.rowL L k).length := ⟨_, rfl⟩
      rw [← hro] at c1
      rw [← hu] at c2 h1
      have HV := Lib.hid (And.intro hV (And.intro hu (And.intro h3 h4)))
      have lSr := hB.out.size
      have um : u ≤ 9223372036854775807 := by unfold maxLen at h2; omega
      clear hV hu h3 h4 hq hro
      obtain ⟨w1, hw1⟩ : ∃ w1, w1 = wr.alloc (.cells #[.int .i64 ro, .slice A u m] 63) := ⟨_, rfl⟩
      have hB1 : Below wr.heap.size wr w1 := by rw [hw1]; exact (Below.refl _ _).alloc (Nat.le_refl _) _
      have HB1 := Lib.hid (And.intro hB1 hw1)
      have HBx := Lib.hid (below_step hB.out hB1)
      have HJ0 : Hid (∀ j, j < 0 → ∀ x, (QL.rowL L k)[j]? = some x → x.id ≠ id) := Lib.hid (fun j hj => by omega)
      have HBw := hB
      have HIw := hI
      have HP1 := Lib.hid (Below.refl w1.heap.size w1)
      clear hw1 hB1 hB hI
      go_wp2
      rw [← HB1.out.2]
      go_loopg [4, 5, 6, 24] u (fun g2 s4 s5 s6 s24 wy => ∃ i : Nat, i + g2 = u ∧ s24 = .int .i64 i ∧ s4 = .int .i64 0 ∧ s5 = .int .i64 0 ∧ s6 = .bool false ∧ Hid (Below w1.heap.size w1 wy) ∧ Hid (∀ j, j < i → ∀ x, (QL.rowL L k)[j]? = some x → x.id ≠ id))
      case atStart => exact ⟨0, by omega, rfl, rfl, rfl, rfl, HP1, HJ0⟩
      case round =>
        clear HP1 HJ0
        obtain ⟨i, hig, rfl, rfl, rfl, rfl, hP, hJ⟩ := hrel
        have HBt := Lib.hid (HBx.out.trans (hP.out.mono HBx.out.size))
        cases gk with
        | zero =>
          have t2 : decide (i < u) = false := decide_eq_false (by omega)
          have HN : Hid (∀ j, j < k + 1 → ∀ x ∈ QL.rowL L j, x.id ≠ id) := Lib.hid (fun j hj x hx => by
            by_cases e : j = k
            · subst e
              obtain ⟨z, hz⟩ := List.getElem?_of_mem hx
              exact hJ.out z (by have := (List.getElem?_eq_some_iff.1 hz).1; have := HV.out.2.1; omega) x hz
            · exact HIw.out j (by omega) x hx)
          clear hJ hP
          go_wp2
          go_roundg gh
          case measure => omega
          case rel => exact ⟨k + 1, by omega, by first | rfl | go_num, rfl, rfl, rfl, HBt, HN⟩
        | succ g2 =>
          have hiu : i < u := by omega
          have t2 : decide (i < u) = true := decide_eq_true hiu
          obtain ⟨x, hx⟩ := get_lt (l := QL.rowL L k) (k := i) (by rw [← HV.out.2.1]; exact hiu)
          obtain ⟨b, m', hV', _, _, hb, hcx⟩ := (H.out.1.keep HBt.out).wait hkR hx
          obtain rfl : A = some ⟨b, 0, none⟩ := by
            have := HV.out.1; rw [hV'] at this; injection this with e1 e2 e3; exact e1.symm
          have a0 : wr.cell? ⟨b, i * 10, none⟩ = some (.int .i64 x.id) := hcx 0 _ rfl
          have a1 : wr.cell? ⟨b, i * 10 + 1, none⟩ = some (.int .i64 x.q) := hcx 1 _ rfl
          have a2 : wr.cell? ⟨b, i * 10 + 2, none⟩ = some (.int .i64 x.p) := hcx 2 _ rfl
          have a3 : wr.cell? ⟨b, i * 10 + 3, none⟩ = some (.int .i64 x.r) := hcx 3 _ rfl
          have a4 : wr.cell? ⟨b, i * 10 + 4, none⟩ = some (.int .i64 x.g) := hcx 4 _ rfl
          have a5 : wr.cell? ⟨b, i * 10 + 5, none⟩ = some (.int .i64 x.c) := hcx 5 _ rfl
          have a6 : wr.cell? ⟨b, i * 10 + 6, none⟩ = some (.int .i64 x.mn) := hcx 6 _ rfl
          have a7 : wr.cell? ⟨b, i * 10 + 7, none⟩ = some (.int .i64 x.mx) := hcx 7 _ rfl
          have a8 : wr.cell? ⟨b, i * 10 + 8, none⟩ = some (.int .i64 x.s) := hcx 8 _ rfl
          have a9 : wr.cell? ⟨b, i * 10 + 9, none⟩ = some (.int .i64 x.n) := hcx 9 _ rfl
          have hBa := (Below.refl wr.heap.size wr).alloc (Nat.le_refl _) (wtO x)
          have hC := Lib.hid (HC.out x (wr.alloc (wtO x)) ((hBa.cell (p := ⟨S, 0, none⟩) (Nat.lt_of_lt_of_le lS HBt.out.size)).trans ((HBt.out.cell (p := ⟨S, 0, none⟩) lS).trans H.out.2.1)))
          have HBa := Lib.hid hBa
          have HX := Lib.hid hx
          obtain ⟨o, ho⟩ : ∃ o, o = decide (x.id = id) := ⟨_, rfl⟩
          rw [← ho] at hC
          simp only [wtV, wtA, wtO] at hC
          have HO := Lib.hid ho
          clear hx hV' hcx hBa ho hb
          cases o
          · go_wp2_with fail
            refine hC.out.mono ?_
            rintro e w2 ⟨rfl, hb2⟩
            have HP2 : Hid (Below w1.heap.size w1 w2) := Lib.hid (below_step hP.out (below_step HBa.out hb2))
            have HN : Hid (∀ j, j < i + 1 → ∀ x, (QL.rowL L k)[j]? = some x → x.id ≠ id) := Lib.hid (fun j hj z hz => by
              by_cases e : j = i
              · subst e
                rw [HX.out] at hz
                injection hz with hz
                subst hz
                exact of_decide_eq_false HO.out.symm
              · exact hJ.out j (by omega) z hz)
            clear hb2 hP hJ hC a0 a1 a2 a3 a4 a5 a6 a7 a8 a9
            go_wp2
            go_roundg g2
            case measure => omega
            case rel => exact ⟨i + 1, by omega, by first | rfl | go_num, rfl, rfl, rfl, HP2, HN⟩
          · go_wp2_with fail
            refine hC.out.mono ?_
            rintro e w2 ⟨rfl, hb2⟩
            have HP2 : Hid (Below w.heap.size w w2) := Lib.hid (below_step HBt.out (below_step HBa.out hb2))
            clear hb2 hP hJ hC a0 a1 a2 a3 a4 a5 a6 a7 a8 a9
            go_wp2
            try rw [Exit.noGoto_ret]
            refine bodyPost_ret (v := .tuple #[.int .i64 k, .int .i64 i, .bool true]) (by simp [results, Try.results33, go_sem]) rfl ?_
            exact ⟨.inr ⟨k, i, x, hkR, HX.out, of_decide_eq_true HO.out.symm, rfl⟩, HP2.out⟩
end Go.Proofs.Ytdeniikaddlifaa
