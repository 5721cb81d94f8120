/- The document's timer: Set. -/
import Derived.Test.YtdoaihmeldkahaaTimerRef3
set_option linter.unusedVariables false
namespace Go.Proofs.Ytdoaihmeldkahaa
open Go.RowKit

section
variable {P : Program} {ops : Array Oper} {Q : Exit → Act → World → Prop} {md : Region.Mode} {S : World → Prop} {c : Nat}
/-- Two numbers may come up: each first. -/
theorem until_two (i j : Nat) {oi oj : Oper} {f : Nat} {listed : Array Bool} {a : Act} {w : World} (hi : ops[i]? = some oi) (hj : ops[j]? = some oj) (hr : Region.ready md ops listed = [i, j]) (hgi : oi.guard = none) (hgj : oj.guard = none)
    (h1 : ∀ K : Act → World → Prop, Hid (∀ a' w', ((listed.setIfInBounds i true).getD c true = false → S w') → wpUntil P md ops Q S c f (listed.setIfInBounds i true) a' w' → K a' w') → oi.wp P a w K Q)
    (h2 : ∀ K : Act → World → Prop, Hid (∀ a' w', ((listed.setIfInBounds j true).getD c true = false → S w') → wpUntil P md ops Q S c f (listed.setIfInBounds j true) a' w' → K a' w') → oj.wp P a w K Q) : wpUntil P md ops Q S c (f + 1) listed a w := by
  refine ⟨fun h0 => (by rw [hr] at h0; cases h0), fun k hk => ?_⟩
  rw [hr] at hk
  have hk2 : k = i ∨ k = j := by simpa using hk
  rcases hk2 with rfl | rfl
  · unfold wpOp
    simp only [hi]
    rw [if_pos (by simp [Region.wanted, hgi])]
    exact .inl (h1 _ (Lib.hid fun _ _ h1 h2 => ⟨h1, h2⟩))
  · unfold wpOp
    simp only [hj]
    rw [if_pos (by simp [Region.wanted, hgj])]
    exact .inl (h2 _ (Lib.hid fun _ _ h1 h2 => ⟨h1, h2⟩))
end
namespace TM
theorem ins_at : ∀ {M : List En} {k : Nat} {x : En}, (∀ y ∈ M.take k, ltB y x = true) → (∀ y, M[k]? = some y → ltB y x = false) → insL x M = M.take k ++ [x] ++ M.drop k
  | [], k, x, _, _ => by simp [insL]
  | y :: l, 0, x, _, h => by
    have := h y (by simp)
    unfold insL
    rw [if_neg (by simp [this])]
    rfl
  | y :: l, k + 1, x, ha, h => by
    have h1 := ha y (by simp)
    have ih := ins_at (M := l) (k := k) (x := x) (fun z hz => ha z (by rw [List.take_succ_cons]; exact List.mem_cons_of_mem _ hz)) (fun z hz => h z (by simpa using hz))
    unfold insL
    rw [if_pos h1, ih]
    rfl
end TM
/-- The row from a place on, nil or not. -/
theorem els_dropA {w : World} {B : Nat} {A : Option Addr} {L : List En} (h : Els rnC 2 w B A L) (k c : Nat) (hc : L.length ≤ c) (hf : A = none ∨ ∃ b off, A = some ⟨b, off, none⟩) : Els rnC 2 w B (if c = k then A else Option.map (fun x => x.add (k * 2)) A) (L.drop k) := by
  rcases hf with rfl | ⟨b, off, rfl⟩
  · rcases h with rfl | ⟨b', off', e1, _⟩
    · exact .inl (by simp)
    · cases e1
  · have := els_drop h k c hc
    by_cases e : c = k
    · rw [if_pos e] at this ⊢; exact this
    · rw [if_neg e] at this ⊢
      simpa [Addr.add_lit] using this
set_option maxRecDepth 100000 in
set_option maxHeartbeats 4000000 in
theorem set_r (p : Nat) (G : Nat → Prop) (L : List En) (i t : Int) (w : World) (h : RObj w p G L) (hlen : L.length ≤ 4096) :
    Calls Try.prog 10 #[.pointer (some ⟨p, 0, none⟩), .int .i64 i, .int .i64 t] w fun e w' => e = .returned (.int .i64 (TM.tSet L i t).1) ∧ ∃ G', RObj w' p G' (TM.tSet L i t).2 ∧ Foot (· = p) w w' ∧ ∀ j, G' j → G j ∨ w.heap.size ≤ j := by
  have hO := Lib.hid h
  have hpG := h.lt.2.1
  unfold TM.tSet
  by_cases h0 : t < 0
  · rw [if_pos (.inl h0)]
    have t0 : decide (t < 0) = true := decide_eq_true h0
    clear h
    go_enter Try.func10, Try.ntmps10
    go_wp2
    go_ret
    exact ⟨rfl, G, hO.out, Foot.refl _ _, fun j hj => .inl hj⟩
  have t0 : decide (t < 0) = false := decide_eq_false h0
  by_cases h1 : 1073741824 < t
  · rw [if_pos (.inr h1)]
    have t1 : decide (1073741824 < t) = true := decide_eq_true h1
    clear h
    go_enter Try.func10, Try.ntmps10
    go_wp2
    go_ret
    exact ⟨rfl, G, hO.out, Foot.refl _ _, fun j hj => .inl hj⟩
  have t1 : decide (1073741824 < t) = false := decide_eq_false h1
  rw [if_neg (by omega)]
  obtain ⟨E, hE⟩ : ∃ E : Int × List En, E = if TM.findL i L = none ∧ 4096 ≤ L.length then (2, L) else (0, TM.insL ⟨t, i⟩ (TM.remL i L)) := ⟨_, rfl⟩
  rw [← hE]
  have HF := Lib.hid (find_r p G L i w h)
  have HDr := Lib.hid (drop_r p G L i w h)
  have c0 : ∃ A c, w.cell? ⟨p, 0, none⟩ = some (.slice A L.length c) := by
    obtain ⟨A, c, h, _⟩ := h
    exact ⟨A, c, h.head.1⟩
  obtain ⟨A, c, c0⟩ := c0
  obtain ⟨n, hn⟩ : ∃ n, n = L.length := ⟨_, rfl⟩
  rw [← hn] at c0 hlen
  have HN := Lib.hid (And.intro hn hE)
  clear h hn hE
  go_enter Try.func10, Try.ntmps10
  go_wp2_with fail
  refine HF.out.mono ?_
  rintro e w1 ⟨r, rfl, rfl, hr⟩
  have hrz : (r < 0 ∧ 4096 ≤ n ∧ Hid (TM.findL i L = none)) ∨ (((r < 0 ∧ n < 4096) ∨ (0 ≤ r)) ∧ Hid ((TM.remL i L).length < 4096 ∧ E = (0, TM.insL ⟨t, i⟩ (TM.remL i L)))) := by
    rcases hr with ⟨e1, rfl⟩ | ⟨k, x, rfl, hx, e1, _⟩
    · by_cases h4 : 4096 ≤ n
      · exact .inl ⟨by omega, h4, Lib.hid e1⟩
      · refine .inr ⟨.inl ⟨by omega, by omega⟩, Lib.hid ⟨by rw [TM.remL_none e1, ← HN.out.1]; omega, ?_⟩⟩
        rw [HN.out.2, if_neg (fun hh => h4 (by rw [HN.out.1]; exact hh.2))]
    · refine .inr ⟨.inr (by omega), Lib.hid ⟨by have := TM.rem_len e1; have := HN.out.1; omega, ?_⟩⟩
      rw [HN.out.2, if_neg (fun hh => by rw [e1] at hh; cases hh.1)]
  clear hr
  rcases hrz with ⟨r0, h4, e1⟩ | ⟨hrr, HR⟩
  · have tr : decide (r < 0) = true := decide_eq_true r0
    have t4 : decide (4096 ≤ n) = true := decide_eq_true h4
    have hE := HN.out.2
    rw [if_pos ⟨e1.out, by rw [← HN.out.1]; exact h4⟩] at hE
    subst hE
    go_wp2
    go_ret
    exact ⟨rfl, G, hO.out, Foot.refl _ _, fun j hj => .inl hj⟩
  rcases hrr with ⟨r0, h4⟩ | r0
  all_goals
    first
      | (have tr : decide (r < 0) = true := decide_eq_true r0
         have t4 : decide (4096 ≤ n) = false := decide_eq_false (by omega))
      | (have tr : decide (r < 0) = false := decide_eq_false (by omega))
    go_wp2_with fail
    refine HDr.out.mono ?_
    rintro e w3 ⟨rfl, G3, h3, hf3, hy3⟩
    rw [TM.drop_rem] at h3
    have hMl := HR.out.1
    obtain ⟨M, hMdef⟩ : ∃ M, M = TM.remL i L := ⟨_, rfl⟩
    rw [← hMdef] at h3 hMl
    clear c0
    obtain ⟨A, c, h, e3⟩ := h3
    obtain ⟨cc, ff, hpl⟩ := h.head
    have hroom := h.room
    obtain ⟨n3, hn3⟩ : ∃ n3, n3 = M.length := ⟨_, rfl⟩
    rw [← hn3] at cc hMl hroom
    have H := Lib.hid (And.intro h (And.intro hn3 trivial))
    have hws := hf3.size
    obtain ⟨i0, hi, hz0, hz1, hz2⟩ := info_parts info_rn
    clear h hn3
    go_wp2_with fail
    go_loopw [7] (fun j wr => ∃ k : Nat, j = .int .i64 k ∧ k ≤ n3 ∧ w3 = wr ∧ Hid (∀ y ∈ M.take k, TM.ltB y ⟨t, i⟩ = true)) (fun j _ => n3 - (intOf j).toNat)
    case atStart => exact ⟨0, rfl, by omega, rfl, Lib.hid (by simp)⟩
    case round =>
      obtain ⟨k, rfl, hk, rfl, Hall⟩ := hrel
      by_cases hlt : k < n3
      · obtain ⟨⟨yk, yi⟩, hy⟩ := get_lt (l := M) (k := k) (by rw [← H.out.2.1]; exact hlt)
        obtain ⟨b, off, hAb, hb, hbp, z0, z1⟩ := H.out.1.at_ hy
        have HAb := Lib.hid hAb
        simp only at z0 z1
        have t5 : decide (k < n3) = true := decide_eq_true hlt
        have Hy := Lib.hid hy
        clear hy
        by_cases q1 : yk < t
        · have t6 : decide (yk < t) = true := decide_eq_true q1
          have HL : Hid (∀ y ∈ M.take (k + 1), TM.ltB y ⟨t, i⟩ = true) := Lib.hid (fun y hy => by
            rw [take_next Hy.out] at hy
            rcases List.mem_append.1 hy with hy | hy
            · exact Hall.out y hy
            · simp at hy; subst hy; exact TM.ltB_iff.2 (.inl q1))
          subst hAb
          clear Hall
          go_wp2
          go_roundw
          case rel => exact ⟨k + 1, by go_num, by omega, by first | rfl | trivial, HL⟩
          case measure => simp [intOf]; omega
        · have t6 : decide (yk < t) = false := decide_eq_false q1
          by_cases q2 : yk = t
          · have t7 : (yk == t) = true := by simpa using q2
            by_cases q3 : yi < i
            · have t8 : decide (yi < i) = true := decide_eq_true q3
              have HL : Hid (∀ y ∈ M.take (k + 1), TM.ltB y ⟨t, i⟩ = true) := Lib.hid (fun y hy => by
                rw [take_next Hy.out] at hy
                rcases List.mem_append.1 hy with hy | hy
                · exact Hall.out y hy
                · simp at hy; subst hy; exact TM.ltB_iff.2 (.inr ⟨q2, q3⟩))
              subst hAb
              clear Hall q2
              go_wp2
              go_roundw
              case rel => exact ⟨k + 1, by go_num, by omega, by first | rfl | trivial, HL⟩
              case measure => simp [intOf]; omega
            · have t8 : decide (yi < i) = false := decide_eq_false q3
              have Hno : Hid (∀ y, M[k]? = some y → TM.ltB y ⟨t, i⟩ = false) := Lib.hid (fun y hy => by
                rw [Hy.out] at hy; injection hy with hy; subst hy; exact TM.ltB_not.2 (by simp only; omega))
              subst hAb
              clear q2
              have ht := Lib.hid (els_take H.out.1.row k c _ rfl)
              have hd := Lib.hid (els_drop H.out.1.row k c H.out.1.room)
              have hlk : (M.take k).length = k := by rw [List.length_take, ← H.out.2.1]; omega
              have hld : (M.drop k).length = n3 - k := by rw [List.length_drop, ← H.out.2.1]
              have hcb : k ≤ c := by omega
              go_wp2_with fail
              refine wp_until (fun w' : World => w'.cell? ⟨p, 0, none⟩ = some (.slice (some ⟨b, off, none⟩) n3 c)) 23 (by kernel_rfl) ?_
              have hS : (fun w' : World => w'.cell? ⟨p, 0, none⟩ = some (.slice (some ⟨b, off, none⟩) n3 c)) w3.drew := cc
              have f4 : w3.drew.frozen? ⟨p, 0, none⟩ = false := ff
              have hB4 : Below w3.heap.size w3 w3.drew := (Below.refl _ _).drew
              have hs4 : w3.heap.size = w3.drew.heap.size := rfl
              clear cc ff
              generalize w3.drew = w4 at hS f4 hB4 hs4 ⊢
              refine until_take (v := ?_) 0 74 rfl rfl (by kernel_rfl) (by kernel_rfl) (by kernel_rfl) (by kernel_rfl) (fun _ _ _ h => h) ⟨by rfl, ?_⟩ hS ?_
              rotate_left
              · intro w' hw'; have x0 : w'.cell? ⟨p, 0, none⟩ = some (.slice (some ⟨b, off, none⟩) n3 c) := hw'; go_simp; (try with_reducible rfl)
              simp only [Act.put, List.setIfInBounds_toArray, List.set_cons_zero, List.set_cons_succ]
              refine until_take (v := ?_) 2 76 rfl rfl (by kernel_rfl) (by kernel_rfl) (by kernel_rfl) (by kernel_rfl) (fun _ _ _ h => h) ⟨by rfl, ?_⟩ hS ?_
              rotate_left
              · intro w' hw'; have x0 : w'.cell? ⟨p, 0, none⟩ = some (.slice (some ⟨b, off, none⟩) n3 c) := hw'; go_simp; (try with_reducible rfl)
              simp only [Act.put, List.setIfInBounds_toArray, List.set_cons_zero, List.set_cons_succ]
              refine until_take (v := ?_) 3 77 rfl rfl (by kernel_rfl) (by kernel_rfl) (by kernel_rfl) (by kernel_rfl) (fun _ _ _ h => h) ⟨by rfl, ?_⟩ hS ?_
              rotate_left
              · intro w' hw'; have x0 : w'.cell? ⟨p, 0, none⟩ = some (.slice (some ⟨b, off, none⟩) n3 c) := hw'; go_simp; (try with_reducible rfl)
              simp only [Act.put, List.setIfInBounds_toArray, List.set_cons_zero, List.set_cons_succ]
              refine until_take (v := ?_) 4 78 rfl rfl (by kernel_rfl) (by kernel_rfl) (by kernel_rfl) (by kernel_rfl) (fun _ _ _ h => h) ⟨by rfl, ?_⟩ hS ?_
              rotate_left
              · intro w' hw'; have x0 : w'.cell? ⟨p, 0, none⟩ = some (.slice (some ⟨b, off, none⟩) n3 c) := hw'; go_simp; (try with_reducible rfl)
              simp only [Act.put, List.setIfInBounds_toArray, List.set_cons_zero, List.set_cons_succ]
              refine until_take (v := ?_) 5 79 rfl rfl (by kernel_rfl) (by kernel_rfl) (by kernel_rfl) (by kernel_rfl) (fun _ _ _ h => h) ⟨by rfl, ?_⟩ hS ?_
              rotate_left
              · intro w' hw'; have x0 : w'.cell? ⟨p, 0, none⟩ = some (.slice (some ⟨b, off, none⟩) n3 c) := hw'; go_simp; (try with_reducible rfl)
              simp only [Act.put, List.setIfInBounds_toArray, List.set_cons_zero, List.set_cons_succ]
              refine until_take (v := ?_) 6 80 rfl rfl (by kernel_rfl) (by kernel_rfl) (by kernel_rfl) (by kernel_rfl) (fun _ _ _ h => h) ⟨by rfl, ?_⟩ hS ?_
              rotate_left
              · intro w' hw'; have x0 : w'.cell? ⟨p, 0, none⟩ = some (.slice (some ⟨b, off, none⟩) n3 c) := hw'; go_simp; (try with_reducible rfl)
              simp only [Act.put, List.setIfInBounds_toArray, List.set_cons_zero, List.set_cons_succ]
              refine until_take (v := ?_) 7 81 rfl rfl (by kernel_rfl) (by kernel_rfl) (by kernel_rfl) (by kernel_rfl) (fun _ _ _ h => h) ⟨by rfl, ?_⟩ hS ?_
              rotate_left
              · intro w' hw'; have x0 : w'.cell? ⟨p, 0, none⟩ = some (.slice (some ⟨b, off, none⟩) n3 c) := hw'; go_simp; (try with_reducible rfl)
              simp only [Act.put, List.setIfInBounds_toArray, List.set_cons_zero, List.set_cons_succ]
              refine until_take (v := ?_) 9 83 rfl rfl (by kernel_rfl) (by kernel_rfl) (by kernel_rfl) (by kernel_rfl) (fun _ _ _ h => h) ⟨by rfl, ?_⟩ hS ?_
              rotate_left
              · intro w' hw'; have x0 : w'.cell? ⟨p, 0, none⟩ = some (.slice (some ⟨b, off, none⟩) n3 c) := hw'; go_simp; (try with_reducible rfl)
              simp only [Act.put, List.setIfInBounds_toArray, List.set_cons_zero, List.set_cons_succ]
              refine until_take (v := ?_) 10 84 rfl rfl (by kernel_rfl) (by kernel_rfl) (by kernel_rfl) (by kernel_rfl) (fun _ _ _ h => h) ⟨by rfl, ?_⟩ hS ?_
              rotate_left
              · intro w' hw'; have x0 : w'.cell? ⟨p, 0, none⟩ = some (.slice (some ⟨b, off, none⟩) n3 c) := hw'; go_simp; (try with_reducible rfl)
              simp only [Act.put, List.setIfInBounds_toArray, List.set_cons_zero, List.set_cons_succ]
              refine until_take (v := ?_) 11 85 rfl rfl (by kernel_rfl) (by kernel_rfl) (by kernel_rfl) (by kernel_rfl) (fun _ _ _ h => h) ⟨by rfl, ?_⟩ hS ?_
              rotate_left
              · intro w' hw'; have x0 : w'.cell? ⟨p, 0, none⟩ = some (.slice (some ⟨b, off, none⟩) n3 c) := hw'; go_simp; (try with_reducible rfl)
              simp only [Act.put, List.setIfInBounds_toArray, List.set_cons_zero, List.set_cons_succ]
              refine until_take (v := ?_) 14 88 rfl rfl (by kernel_rfl) (by kernel_rfl) (by kernel_rfl) (by kernel_rfl) (fun _ _ _ h => h) ⟨by rfl, ?_⟩ hS ?_
              rotate_left
              · intro w' hw'; have x0 : w'.cell? ⟨p, 0, none⟩ = some (.slice (some ⟨b, off, none⟩) n3 c) := hw'; go_simp; (try with_reducible rfl)
              simp only [Act.put, List.setIfInBounds_toArray, List.set_cons_zero, List.set_cons_succ]
              refine until_take (v := ?_) 15 89 rfl rfl (by kernel_rfl) (by kernel_rfl) (by kernel_rfl) (by kernel_rfl) (fun _ _ _ h => h) ⟨by rfl, ?_⟩ hS ?_
              rotate_left
              · intro w' hw'; have x0 : w'.cell? ⟨p, 0, none⟩ = some (.slice (some ⟨b, off, none⟩) n3 c) := hw'; go_simp; (try with_reducible rfl)
              simp only [Act.put, List.setIfInBounds_toArray, List.set_cons_zero, List.set_cons_succ]
              refine until_take (v := ?_) 16 90 rfl rfl (by kernel_rfl) (by kernel_rfl) (by kernel_rfl) (by kernel_rfl) (fun _ _ _ h => h) ⟨by rfl, ?_⟩ hS ?_
              rotate_left
              · intro w' hw'; have x0 : w'.cell? ⟨p, 0, none⟩ = some (.slice (some ⟨b, off, none⟩) n3 c) := hw'; go_simp; (try with_reducible rfl)
              simp only [Act.put, List.setIfInBounds_toArray, List.set_cons_zero, List.set_cons_succ]
              refine until_take (v := ?_) 17 91 rfl rfl (by kernel_rfl) (by kernel_rfl) (by kernel_rfl) (by kernel_rfl) (fun _ _ _ h => h) ⟨by rfl, ?_⟩ hS ?_
              rotate_left
              · intro w' hw'; have x0 : w'.cell? ⟨p, 0, none⟩ = some (.slice (some ⟨b, off, none⟩) n3 c) := hw'; go_simp; (try with_reducible rfl)
              simp only [Act.put, List.setIfInBounds_toArray, List.set_cons_zero, List.set_cons_succ]
              refine until_take (v := ?_) 18 92 rfl rfl (by kernel_rfl) (by kernel_rfl) (by kernel_rfl) (by kernel_rfl) (fun _ _ _ h => h) ⟨by rfl, ?_⟩ hS ?_
              rotate_left
              · intro w' hw'; have x0 : w'.cell? ⟨p, 0, none⟩ = some (.slice (some ⟨b, off, none⟩) n3 c) := hw'; go_simp; (try with_reducible rfl)
              simp only [Act.put, List.setIfInBounds_toArray, List.set_cons_zero, List.set_cons_succ]
              refine until_take (v := ?_) 19 93 rfl rfl (by kernel_rfl) (by kernel_rfl) (by kernel_rfl) (by kernel_rfl) (fun _ _ _ h => h) ⟨by rfl, ?_⟩ hS ?_
              rotate_left
              · intro w' hw'; have x0 : w'.cell? ⟨p, 0, none⟩ = some (.slice (some ⟨b, off, none⟩) n3 c) := hw'; go_simp; (try with_reducible rfl)
              simp only [Act.put, List.setIfInBounds_toArray, List.set_cons_zero, List.set_cons_succ]
              generalize (if c = k then some (⟨b, off, none⟩ : Addr) else some ⟨b, off + k * 2, none⟩) = Ad at hd ⊢
              clear f4
              refine until_two 1 12 rfl rfl (by kernel_rfl) rfl rfl (fun K hK => ?_) (fun K hK => ?_)
              · go_simp
                obtain ⟨wa, hwa⟩ : ∃ x, x = w4.alloc (.cells #[] 43) := ⟨_, rfl⟩
                have ownE : wa.ownsRow w4.heap.size 43 2 (.slice (some ⟨w4.heap.size, 0, none⟩) 0 0) 0 [] := by rw [hwa]; exact World.ownsRow_lit w4 #[] 0 (by omega) (by unfold maxLen; omega) rfl
                have hBa : Below w3.heap.size w3 wa := by rw [hwa]; exact hB4.alloc hB4.size _
                have swa : w4.heap.size < wa.heap.size := by rw [hwa]; simp
                have hSa : (fun w' : World => w'.cell? ⟨p, 0, none⟩ = some (.slice (some ⟨b, off, none⟩) n3 c)) wa := by rw [hwa]; exact (((Below.refl w4.heap.size w4).alloc (Nat.le_refl _) _).cell (p := ⟨p, 0, none⟩) (show p < _ by omega)).trans hS
                rw [← hwa]
                refine hK.out _ _ (fun _ => hSa) ?_
                clear hK K hwa
                refine until_two 8 12 rfl rfl (by kernel_rfl) rfl rfl (fun K hK => ?_) (fun K hK => ?_)
                · simp only [Go.wp_at_zero, Go.wp_at_succ]
                  refine wp_append_els (C := rnC) (k := 2) _ _ _ 27 rfl w4.heap.size 43 i0 _ 16 Try.underlying27 hi hz0 hz1 hz2 rfl (by decide) (.slice (some ⟨w4.heap.size, 0, none⟩) 0 0) 0 [] rfl ownE w3.heap.size (some ⟨b, off, none⟩) c k (M.take k) rfl (ht.out.keep (hBa) (Nat.le_refl _)) hlk.symm rnC_len rnC_one (by unfold maxLen; omega) (by omega) (by omega) ?_
                  intro A5 c5 wb own5 gwb kwb
                  rw [Nat.zero_add] at own5 ⊢
                  rw [List.nil_append] at own5
                  have hob : ∀ j, (Value.slice (some ⟨w4.heap.size, 0, none⟩) 0 0).ownBlock = some j → j = w4.heap.size := fun j hj => by simpa [Value.ownBlock] using hj.symm
                  have hBb : Below w3.heap.size w3 wb := hBa.grown gwb (by omega) (fun j hj => by have := hob j hj; omega)
                  have swb := gwb.size
                  have hSb : (fun w' : World => w'.cell? ⟨p, 0, none⟩ = some (.slice (some ⟨b, off, none⟩) n3 c)) wb := (gwb.cell_far ⟨p, 0, none⟩ (show p < wa.heap.size by omega) (fun e => by have := hob p e.symm; omega)).trans hSa
                  refine hK.out _ _ (fun _ => hSb) ?_
                  clear hK K
                  simp only [Act.put, List.setIfInBounds_toArray, List.set_cons_zero, List.set_cons_succ]
                  have Own5 := Lib.hid own5
                  clear own5 gwb kwb hob
                  refine until_one 12 rfl (by kernel_rfl) rfl (fun K hK => ?_)
                  go_simp
                  obtain ⟨wc, hwc⟩ : ∃ x, x = wb.alloc (.cells #[.int .i64 t, .int .i64 i] 43) := ⟨_, rfl⟩
                  have elsB : Els rnC 2 wc wc.heap.size (some ⟨wb.heap.size, 0, none⟩) [⟨t, i⟩] := by rw [hwc]; exact els_blk rnC_len (heap_alloc_new wb _) (fun j v hj => by simpa [rnC] using hj)
                  have hBc : Below w3.heap.size w3 wc := by rw [hwc]; exact hBb.alloc hBb.size _
                  have swc : wb.heap.size < wc.heap.size := by rw [hwc]; simp
                  have bwc : Below wb.heap.size wb wc := by rw [hwc]; exact (Below.refl _ _).alloc (Nat.le_refl _) _
                  have hSc : (fun w' : World => w'.cell? ⟨p, 0, none⟩ = some (.slice (some ⟨b, off, none⟩) n3 c)) wc := (bwc.cell (p := ⟨p, 0, none⟩) (show p < _ by omega)).trans hSb
                  rw [← hwc]
                  refine hK.out _ _ (fun _ => hSc) ?_
                  clear hK K hwc
                  have own5 := own_keep Own5.out bwc
                  refine until_one 13 rfl (by kernel_rfl) rfl (fun K hK => ?_)
                  simp only [Go.wp_at_zero, Go.wp_at_succ]
                  refine wp_append_els (C := rnC) (k := 2) _ _ _ 27 rfl w4.heap.size 43 i0 _ 16 Try.underlying27 hi hz0 hz1 hz2 rfl (by decide) (.slice A5 k c5) k _ rfl own5 _ (some ⟨wb.heap.size, 0, none⟩) 1 1 [⟨t, i⟩] rfl elsB rfl rnC_len rnC_one (by unfold maxLen; omega) (by omega) (by omega) ?_
                  intro A7 c7 w7 own7 g7 k7
                  have hob5 : ∀ j, (Value.slice A5 k c5).ownBlock = some j → w4.heap.size ≤ j := fun j hj => (own5.lt j hj).1
                  have hB7 : Below w3.heap.size w3 w7 := hBc.grown g7 (by omega) (fun j hj => by have := hob5 j hj; omega)
                  have s7 := g7.size
                  have hS7 : (fun w' : World => w'.cell? ⟨p, 0, none⟩ = some (.slice (some ⟨b, off, none⟩) n3 c)) w7 := (g7.cell_far ⟨p, 0, none⟩ (show p < wc.heap.size by omega) (fun e => by have := hob5 p e.symm; omega)).trans hSc
                  refine hK.out _ _ (fun _ => hS7) ?_
                  clear hK K
                  simp only [Act.put, List.setIfInBounds_toArray, List.set_cons_zero, List.set_cons_succ]
                  refine until_one 20 rfl (by kernel_rfl) rfl (fun K hK => ?_)
                  simp only [Go.wp_at_zero, Go.wp_at_succ]
                  refine wp_append_els (C := rnC) (k := 2) _ _ _ 27 rfl w4.heap.size 43 i0 _ 16 Try.underlying27 hi hz0 hz1 hz2 rfl (by decide) (.slice A7 (k + 1) c7) (k + 1) _ rfl own7 w3.heap.size Ad (c - k) (n3 - k) (M.drop k) rfl (hd.out.keep hB7 (Nat.le_refl _)) hld.symm rnC_len rnC_one (by unfold maxLen; omega) (by omega) (by omega) ?_
                  intro A8 c8 w8 own8 g8 k8
                  have hob7 : ∀ j, (Value.slice A7 (k + 1) c7).ownBlock = some j → w4.heap.size ≤ j := fun j hj => (own7.lt j hj).1
                  have hB8 : Below w3.heap.size w3 w8 := hB7.grown g8 (by omega) (fun j hj => by have := hob7 j hj; omega)
                  have s8 := g8.size
                  have hS8 : (fun w' : World => w'.cell? ⟨p, 0, none⟩ = some (.slice (some ⟨b, off, none⟩) n3 c)) w8 := (g8.cell_far ⟨p, 0, none⟩ (show p < w7.heap.size by omega) (fun e => by have := hob7 p e.symm; omega)).trans hS7
                  have g9 : w8.frozen? ⟨p, 0, none⟩ = false := (hB8.frozen (p := ⟨p, 0, none⟩) hpl).trans H.out.1.head.2.1
                  refine hK.out _ _ (fun _ => hS8) ?_
                  clear hK K
                  simp only [Act.put, List.setIfInBounds_toArray, List.set_cons_zero, List.set_cons_succ]
                  have hS9 : w8.cell? ⟨p, 0, none⟩ = some (.slice (some ⟨b, off, none⟩) n3 c) := hS8
                  refine until_one 21 rfl (by kernel_rfl) rfl (fun K hK => ?_)
                  go_simp
                  refine hK.out _ _ (fun _ => hS8) ?_
                  clear hK K
                  refine until_one 22 rfl (by kernel_rfl) rfl (fun K hK => ?_)
                  go_simp
                  refine hK.out _ _ (fun _ => hS8) ?_
                  clear hK K
                  refine until_one 23 rfl (by kernel_rfl) rfl (fun K hK => ?_)
                  go_simp
                  refine hK.out _ _ (fun h => absurd h (by decide)) ?_
                  clear hK K
                  refine until_done (by kernel_rfl) ?_
                  have hM : (M.take k ++ [(⟨t, i⟩ : En)] ++ M.drop k).length = k + 1 + (n3 - k) := by rw [List.length_append, List.length_append, hlk, hld]; rfl
                  have hobj : w8.heap[p]? = some (.cells #[.slice (some ⟨b, off, none⟩) n3 c] 29 (0, 0)) := (hB8.block p hpl).trans (by have := H.out.1.obj; rwa [← H.out.2.1] at this)
                  have hmade := RAt.made (M := M.take k ++ [(⟨t, i⟩ : En)] ++ M.drop k) hobj (by rw [List.flatMap_append, List.flatMap_append]; exact own8) hM (by omega) (by omega)
                  have HM := Lib.hid (And.intro hmade hB8)
                  have HN2 := Lib.hid (And.intro HR.out.2 (TM.ins_at (x := (⟨t, i⟩ : En)) Hall.out Hno.out))
                  clear hS hS7 hS8 hS9 hB7 hB8 own5 own7 own8 g7 g8 k7 k8 hob5 hob7 hobj hmade g9 hlk hld hM
                  go_wp2
                  go_ret
                  rw [HN2.out.1, ← hMdef, HN2.out.2]
                  refine ⟨rfl, _, ⟨A8, c8, HM.out.1.1, rfl⟩, hf3.trans ((Foot.of_below (F := (· = p)) HM.out.2).setCell (p := ⟨p, 0, none⟩) (.inl rfl) _) (fun j hj => .inl hj), fun j hj => ?_⟩
                  rcases HM.out.1.2 j hj with e | e
                  · rw [e]; exact .inl hpG
                  · exact .inr (by omega)
                · go_simp
                  obtain ⟨wb, hwb⟩ : ∃ x, x = wa.alloc (.cells #[.int .i64 t, .int .i64 i] 43) := ⟨_, rfl⟩
                  have elsB : Els rnC 2 wb wb.heap.size (some ⟨wa.heap.size, 0, none⟩) [⟨t, i⟩] := by rw [hwb]; exact els_blk rnC_len (heap_alloc_new wa _) (fun j v hj => by simpa [rnC] using hj)
                  have hBb : Below w3.heap.size w3 wb := by rw [hwb]; exact hBa.alloc hBa.size _
                  have swb : wa.heap.size < wb.heap.size := by rw [hwb]; simp
                  have bwb : Below wa.heap.size wa wb := by rw [hwb]; exact (Below.refl _ _).alloc (Nat.le_refl _) _
                  have hSb : (fun w' : World => w'.cell? ⟨p, 0, none⟩ = some (.slice (some ⟨b, off, none⟩) n3 c)) wb := (bwb.cell (p := ⟨p, 0, none⟩) (show p < _ by omega)).trans hSa
                  rw [← hwb]
                  refine hK.out _ _ (fun _ => hSb) ?_
                  clear hK K hwb
                  have ownE := own_keep ownE bwb
                  refine until_one 8 rfl (by kernel_rfl) rfl (fun K hK => ?_)
                  simp only [Go.wp_at_zero, Go.wp_at_succ]
                  refine wp_append_els (C := rnC) (k := 2) _ _ _ 27 rfl w4.heap.size 43 i0 _ 16 Try.underlying27 hi hz0 hz1 hz2 rfl (by decide) (.slice (some ⟨w4.heap.size, 0, none⟩) 0 0) 0 [] rfl ownE w3.heap.size (some ⟨b, off, none⟩) c k (M.take k) rfl (ht.out.keep (hBb) (Nat.le_refl _)) hlk.symm rnC_len rnC_one (by unfold maxLen; omega) (by omega) (by omega) ?_
                  intro A5 c5 wc own5 gwc kwc
                  rw [Nat.zero_add] at own5 ⊢
                  rw [List.nil_append] at own5
                  have hob : ∀ j, (Value.slice (some ⟨w4.heap.size, 0, none⟩) 0 0).ownBlock = some j → j = w4.heap.size := fun j hj => by simpa [Value.ownBlock] using hj.symm
                  have hBc : Below w3.heap.size w3 wc := hBb.grown gwc (by omega) (fun j hj => by have := hob j hj; omega)
                  have swc := gwc.size
                  have hSc : (fun w' : World => w'.cell? ⟨p, 0, none⟩ = some (.slice (some ⟨b, off, none⟩) n3 c)) wc := (gwc.cell_far ⟨p, 0, none⟩ (show p < wb.heap.size by omega) (fun e => by have := hob p e.symm; omega)).trans hSb
                  have elsB : Els rnC 2 wc wc.heap.size (some ⟨wa.heap.size, 0, none⟩) [⟨t, i⟩] := (elsB.off (w' := wc) fun b2 o2 e2 hb2 => gwc.block b2 hb2 (fun e => by have := hob b2 e.symm; injection e2 with e2; injection e2 with e2; omega)).imp swc fun _ _ _ _ hd => hd
                  refine hK.out _ _ (fun _ => hSc) ?_
                  clear hK K
                  simp only [Act.put, List.setIfInBounds_toArray, List.set_cons_zero, List.set_cons_succ]
                  refine until_one 13 rfl (by kernel_rfl) rfl (fun K hK => ?_)
                  simp only [Go.wp_at_zero, Go.wp_at_succ]
                  refine wp_append_els (C := rnC) (k := 2) _ _ _ 27 rfl w4.heap.size 43 i0 _ 16 Try.underlying27 hi hz0 hz1 hz2 rfl (by decide) (.slice A5 k c5) k _ rfl own5 _ (some ⟨wa.heap.size, 0, none⟩) 1 1 [⟨t, i⟩] rfl elsB rfl rnC_len rnC_one (by unfold maxLen; omega) (by omega) (by omega) ?_
                  intro A7 c7 w7 own7 g7 k7
                  have hob5 : ∀ j, (Value.slice A5 k c5).ownBlock = some j → w4.heap.size ≤ j := fun j hj => (own5.lt j hj).1
                  have hB7 : Below w3.heap.size w3 w7 := hBc.grown g7 (by omega) (fun j hj => by have := hob5 j hj; omega)
                  have s7 := g7.size
                  have hS7 : (fun w' : World => w'.cell? ⟨p, 0, none⟩ = some (.slice (some ⟨b, off, none⟩) n3 c)) w7 := (g7.cell_far ⟨p, 0, none⟩ (show p < wc.heap.size by omega) (fun e => by have := hob5 p e.symm; omega)).trans hSc
                  refine hK.out _ _ (fun _ => hS7) ?_
                  clear hK K
                  simp only [Act.put, List.setIfInBounds_toArray, List.set_cons_zero, List.set_cons_succ]
                  refine until_one 20 rfl (by kernel_rfl) rfl (fun K hK => ?_)
                  simp only [Go.wp_at_zero, Go.wp_at_succ]
                  refine wp_append_els (C := rnC) (k := 2) _ _ _ 27 rfl w4.heap.size 43 i0 _ 16 Try.underlying27 hi hz0 hz1 hz2 rfl (by decide) (.slice A7 (k + 1) c7) (k + 1) _ rfl own7 w3.heap.size Ad (c - k) (n3 - k) (M.drop k) rfl (hd.out.keep hB7 (Nat.le_refl _)) hld.symm rnC_len rnC_one (by unfold maxLen; omega) (by omega) (by omega) ?_
                  intro A8 c8 w8 own8 g8 k8
                  have hob7 : ∀ j, (Value.slice A7 (k + 1) c7).ownBlock = some j → w4.heap.size ≤ j := fun j hj => (own7.lt j hj).1
                  have hB8 : Below w3.heap.size w3 w8 := hB7.grown g8 (by omega) (fun j hj => by have := hob7 j hj; omega)
                  have s8 := g8.size
                  have hS8 : (fun w' : World => w'.cell? ⟨p, 0, none⟩ = some (.slice (some ⟨b, off, none⟩) n3 c)) w8 := (g8.cell_far ⟨p, 0, none⟩ (show p < w7.heap.size by omega) (fun e => by have := hob7 p e.symm; omega)).trans hS7
                  have g9 : w8.frozen? ⟨p, 0, none⟩ = false := (hB8.frozen (p := ⟨p, 0, none⟩) hpl).trans H.out.1.head.2.1
                  refine hK.out _ _ (fun _ => hS8) ?_
                  clear hK K
                  simp only [Act.put, List.setIfInBounds_toArray, List.set_cons_zero, List.set_cons_succ]
                  have hS9 : w8.cell? ⟨p, 0, none⟩ = some (.slice (some ⟨b, off, none⟩) n3 c) := hS8
                  refine until_one 21 rfl (by kernel_rfl) rfl (fun K hK => ?_)
                  go_simp
                  refine hK.out _ _ (fun _ => hS8) ?_
                  clear hK K
                  refine until_one 22 rfl (by kernel_rfl) rfl (fun K hK => ?_)
                  go_simp
                  refine hK.out _ _ (fun _ => hS8) ?_
                  clear hK K
                  refine until_one 23 rfl (by kernel_rfl) rfl (fun K hK => ?_)
                  go_simp
                  refine hK.out _ _ (fun h => absurd h (by decide)) ?_
                  clear hK K
                  refine until_done (by kernel_rfl) ?_
                  have hM : (M.take k ++ [(⟨t, i⟩ : En)] ++ M.drop k).length = k + 1 + (n3 - k) := by rw [List.length_append, List.length_append, hlk, hld]; rfl
                  have hobj : w8.heap[p]? = some (.cells #[.slice (some ⟨b, off, none⟩) n3 c] 29 (0, 0)) := (hB8.block p hpl).trans (by have := H.out.1.obj; rwa [← H.out.2.1] at this)
                  have hmade := RAt.made (M := M.take k ++ [(⟨t, i⟩ : En)] ++ M.drop k) hobj (by rw [List.flatMap_append, List.flatMap_append]; exact own8) hM (by omega) (by omega)
                  have HM := Lib.hid (And.intro hmade hB8)
                  have HN2 := Lib.hid (And.intro HR.out.2 (TM.ins_at (x := (⟨t, i⟩ : En)) Hall.out Hno.out))
                  clear hS hS7 hS8 hS9 hB7 hB8 own5 own7 own8 g7 g8 k7 k8 hob5 hob7 hobj hmade g9 hlk hld hM
                  go_wp2
                  go_ret
                  rw [HN2.out.1, ← hMdef, HN2.out.2]
                  refine ⟨rfl, _, ⟨A8, c8, HM.out.1.1, rfl⟩, hf3.trans ((Foot.of_below (F := (· = p)) HM.out.2).setCell (p := ⟨p, 0, none⟩) (.inl rfl) _) (fun j hj => .inl hj), fun j hj => ?_⟩
                  rcases HM.out.1.2 j hj with e | e
                  · rw [e]; exact .inl hpG
                  · exact .inr (by omega)
              · go_simp
                obtain ⟨wa, hwa⟩ : ∃ x, x = w4.alloc (.cells #[.int .i64 t, .int .i64 i] 43) := ⟨_, rfl⟩
                have elsB : Els rnC 2 wa wa.heap.size (some ⟨w4.heap.size, 0, none⟩) [⟨t, i⟩] := by rw [hwa]; exact els_blk rnC_len (heap_alloc_new w4 _) (fun j v hj => by simpa [rnC] using hj)
                have hBa : Below w3.heap.size w3 wa := by rw [hwa]; exact hB4.alloc hB4.size _
                have swa : w4.heap.size < wa.heap.size := by rw [hwa]; simp
                have bwa : Below w4.heap.size w4 wa := by rw [hwa]; exact (Below.refl _ _).alloc (Nat.le_refl _) _
                have hSa : (fun w' : World => w'.cell? ⟨p, 0, none⟩ = some (.slice (some ⟨b, off, none⟩) n3 c)) wa := (bwa.cell (p := ⟨p, 0, none⟩) (show p < _ by omega)).trans hS
                rw [← hwa]
                refine hK.out _ _ (fun _ => hSa) ?_
                clear hK K hwa
                refine until_one 1 rfl (by kernel_rfl) rfl (fun K hK => ?_)
                go_simp
                obtain ⟨wb, hwb⟩ : ∃ x, x = wa.alloc (.cells #[] 43) := ⟨_, rfl⟩
                have ownE : wb.ownsRow w4.heap.size 43 2 (.slice (some ⟨wa.heap.size, 0, none⟩) 0 0) 0 [] := by rw [hwb]; exact World.ownsRow_lit wa #[] 0 (by omega) (by unfold maxLen; omega) rfl
                have hBb : Below w3.heap.size w3 wb := by rw [hwb]; exact hBa.alloc hBa.size _
                have swb : wa.heap.size < wb.heap.size := by rw [hwb]; simp
                have hSb : (fun w' : World => w'.cell? ⟨p, 0, none⟩ = some (.slice (some ⟨b, off, none⟩) n3 c)) wb := by rw [hwb]; exact (((Below.refl wa.heap.size wa).alloc (Nat.le_refl _) _).cell (p := ⟨p, 0, none⟩) (show p < _ by omega)).trans hSa
                have kwb : ∀ b2, b2 < wa.heap.size → wb.heap[b2]? = wa.heap[b2]? := fun b2 hb2 => by rw [hwb]; exact Below.heap_alloc wa _ b2 hb2
                rw [← hwb]
                refine hK.out _ _ (fun _ => hSb) ?_
                clear hK K hwb
                have elsB : Els rnC 2 wb wb.heap.size (some ⟨w4.heap.size, 0, none⟩) [⟨t, i⟩] := (elsB.off (w' := wb) fun b2 o2 e2 hb2 => kwb b2 hb2).imp (by omega) fun _ _ _ _ hd => hd
                refine until_one 8 rfl (by kernel_rfl) rfl (fun K hK => ?_)
                simp only [Go.wp_at_zero, Go.wp_at_succ]
                refine wp_append_els (C := rnC) (k := 2) _ _ _ 27 rfl w4.heap.size 43 i0 _ 16 Try.underlying27 hi hz0 hz1 hz2 rfl (by decide) (.slice (some ⟨wa.heap.size, 0, none⟩) 0 0) 0 [] rfl ownE w3.heap.size (some ⟨b, off, none⟩) c k (M.take k) rfl (ht.out.keep (hBb) (Nat.le_refl _)) hlk.symm rnC_len rnC_one (by unfold maxLen; omega) (by omega) (by omega) ?_
                intro A5 c5 wc own5 gwc kwc
                rw [Nat.zero_add] at own5 ⊢
                rw [List.nil_append] at own5
                have hob : ∀ j, (Value.slice (some ⟨wa.heap.size, 0, none⟩) 0 0).ownBlock = some j → j = wa.heap.size := fun j hj => by simpa [Value.ownBlock] using hj.symm
                have hBc : Below w3.heap.size w3 wc := hBb.grown gwc (by omega) (fun j hj => by have := hob j hj; omega)
                have swc := gwc.size
                have hSc : (fun w' : World => w'.cell? ⟨p, 0, none⟩ = some (.slice (some ⟨b, off, none⟩) n3 c)) wc := (gwc.cell_far ⟨p, 0, none⟩ (show p < wb.heap.size by omega) (fun e => by have := hob p e.symm; omega)).trans hSb
                have elsB : Els rnC 2 wc wc.heap.size (some ⟨w4.heap.size, 0, none⟩) [⟨t, i⟩] := (elsB.off (w' := wc) fun b2 o2 e2 hb2 => gwc.block b2 hb2 (fun e => by have := hob b2 e.symm; injection e2 with e2; injection e2 with e2; omega)).imp swc fun _ _ _ _ hd => hd
                refine hK.out _ _ (fun _ => hSc) ?_
                clear hK K
                simp only [Act.put, List.setIfInBounds_toArray, List.set_cons_zero, List.set_cons_succ]
                refine until_one 13 rfl (by kernel_rfl) rfl (fun K hK => ?_)
                simp only [Go.wp_at_zero, Go.wp_at_succ]
                refine wp_append_els (C := rnC) (k := 2) _ _ _ 27 rfl w4.heap.size 43 i0 _ 16 Try.underlying27 hi hz0 hz1 hz2 rfl (by decide) (.slice A5 k c5) k _ rfl own5 _ (some ⟨w4.heap.size, 0, none⟩) 1 1 [⟨t, i⟩] rfl elsB rfl rnC_len rnC_one (by unfold maxLen; omega) (by omega) (by omega) ?_
                intro A7 c7 w7 own7 g7 k7
                have hob5 : ∀ j, (Value.slice A5 k c5).ownBlock = some j → w4.heap.size ≤ j := fun j hj => (own5.lt j hj).1
                have hB7 : Below w3.heap.size w3 w7 := hBc.grown g7 (by omega) (fun j hj => by have := hob5 j hj; omega)
                have s7 := g7.size
                have hS7 : (fun w' : World => w'.cell? ⟨p, 0, none⟩ = some (.slice (some ⟨b, off, none⟩) n3 c)) w7 := (g7.cell_far ⟨p, 0, none⟩ (show p < wc.heap.size by omega) (fun e => by have := hob5 p e.symm; omega)).trans hSc
                refine hK.out _ _ (fun _ => hS7) ?_
                clear hK K
                simp only [Act.put, List.setIfInBounds_toArray, List.set_cons_zero, List.set_cons_succ]
                refine until_one 20 rfl (by kernel_rfl) rfl (fun K hK => ?_)
                simp only [Go.wp_at_zero, Go.wp_at_succ]
                refine wp_append_els (C := rnC) (k := 2) _ _ _ 27 rfl w4.heap.size 43 i0 _ 16 Try.underlying27 hi hz0 hz1 hz2 rfl (by decide) (.slice A7 (k + 1) c7) (k + 1) _ rfl own7 w3.heap.size Ad (c - k) (n3 - k) (M.drop k) rfl (hd.out.keep hB7 (Nat.le_refl _)) hld.symm rnC_len rnC_one (by unfold maxLen; omega) (by omega) (by omega) ?_
                intro A8 c8 w8 own8 g8 k8
                have hob7 : ∀ j, (Value.slice A7 (k + 1) c7).ownBlock = some j → w4.heap.size ≤ j := fun j hj => (own7.lt j hj).1
                have hB8 : Below w3.heap.size w3 w8 := hB7.grown g8 (by omega) (fun j hj => by have := hob7 j hj; omega)
                have s8 := g8.size
                have hS8 : (fun w' : World => w'.cell? ⟨p, 0, none⟩ = some (.slice (some ⟨b, off, none⟩) n3 c)) w8 := (g8.cell_far ⟨p, 0, none⟩ (show p < w7.heap.size by omega) (fun e => by have := hob7 p e.symm; omega)).trans hS7
                have g9 : w8.frozen? ⟨p, 0, none⟩ = false := (hB8.frozen (p := ⟨p, 0, none⟩) hpl).trans H.out.1.head.2.1
                refine hK.out _ _ (fun _ => hS8) ?_
                clear hK K
                simp only [Act.put, List.setIfInBounds_toArray, List.set_cons_zero, List.set_cons_succ]
                have hS9 : w8.cell? ⟨p, 0, none⟩ = some (.slice (some ⟨b, off, none⟩) n3 c) := hS8
                refine until_one 21 rfl (by kernel_rfl) rfl (fun K hK => ?_)
                go_simp
                refine hK.out _ _ (fun _ => hS8) ?_
                clear hK K
                refine until_one 22 rfl (by kernel_rfl) rfl (fun K hK => ?_)
                go_simp
                refine hK.out _ _ (fun _ => hS8) ?_
                clear hK K
                refine until_one 23 rfl (by kernel_rfl) rfl (fun K hK => ?_)
                go_simp
                refine hK.out _ _ (fun h => absurd h (by decide)) ?_
                clear hK K
                refine until_done (by kernel_rfl) ?_
                have hM : (M.take k ++ [(⟨t, i⟩ : En)] ++ M.drop k).length = k + 1 + (n3 - k) := by rw [List.length_append, List.length_append, hlk, hld]; rfl
                have hobj : w8.heap[p]? = some (.cells #[.slice (some ⟨b, off, none⟩) n3 c] 29 (0, 0)) := (hB8.block p hpl).trans (by have := H.out.1.obj; rwa [← H.out.2.1] at this)
                have hmade := RAt.made (M := M.take k ++ [(⟨t, i⟩ : En)] ++ M.drop k) hobj (by rw [List.flatMap_append, List.flatMap_append]; exact own8) hM (by omega) (by omega)
                have HM := Lib.hid (And.intro hmade hB8)
                have HN2 := Lib.hid (And.intro HR.out.2 (TM.ins_at (x := (⟨t, i⟩ : En)) Hall.out Hno.out))
                clear hS hS7 hS8 hS9 hB7 hB8 own5 own7 own8 g7 g8 k7 k8 hob5 hob7 hobj hmade g9 hlk hld hM
                go_wp2
                go_ret
                rw [HN2.out.1, ← hMdef, HN2.out.2]
                refine ⟨rfl, _, ⟨A8, c8, HM.out.1.1, rfl⟩, hf3.trans ((Foot.of_below (F := (· = p)) HM.out.2).setCell (p := ⟨p, 0, none⟩) (.inl rfl) _) (fun j hj => .inl hj), fun j hj => ?_⟩
                rcases HM.out.1.2 j hj with e | e
                · rw [e]; exact .inl hpG
                · exact .inr (by omega)
          · have t7 : (yk == t) = false := by simpa using q2
            have Hno : Hid (∀ y, M[k]? = some y → TM.ltB y ⟨t, i⟩ = false) := Lib.hid (fun y hy => by
              rw [Hy.out] at hy; injection hy with hy; subst hy; exact TM.ltB_not.2 (by simp only; omega))
            subst hAb
            have ht := Lib.hid (els_take H.out.1.row k c _ rfl)
            have hd := Lib.hid (els_drop H.out.1.row k c H.out.1.room)
            have hlk : (M.take k).length = k := by rw [List.length_take, ← H.out.2.1]; omega
            have hld : (M.drop k).length = n3 - k := by rw [List.length_drop, ← H.out.2.1]
            have hcb : k ≤ c := by omega
            go_wp2_with fail
            refine wp_until (fun w' : World => w'.cell? ⟨p, 0, none⟩ = some (.slice (some ⟨b, off, none⟩) n3 c)) 23 (by kernel_rfl) ?_
            have hS : (fun w' : World => w'.cell? ⟨p, 0, none⟩ = some (.slice (some ⟨b, off, none⟩) n3 c)) w3.drew := cc
            have f4 : w3.drew.frozen? ⟨p, 0, none⟩ = false := ff
            have hB4 : Below w3.heap.size w3 w3.drew := (Below.refl _ _).drew
            have hs4 : w3.heap.size = w3.drew.heap.size := rfl
            clear cc ff
            generalize w3.drew = w4 at hS f4 hB4 hs4 ⊢
            refine until_take (v := ?_) 0 74 rfl rfl (by kernel_rfl) (by kernel_rfl) (by kernel_rfl) (by kernel_rfl) (fun _ _ _ h => h) ⟨by rfl, ?_⟩ hS ?_
            rotate_left
            · intro w' hw'; have x0 : w'.cell? ⟨p, 0, none⟩ = some (.slice (some ⟨b, off, none⟩) n3 c) := hw'; go_simp; (try with_reducible rfl)
            simp only [Act.put, List.setIfInBounds_toArray, List.set_cons_zero, List.set_cons_succ]
            refine until_take (v := ?_) 2 76 rfl rfl (by kernel_rfl) (by kernel_rfl) (by kernel_rfl) (by kernel_rfl) (fun _ _ _ h => h) ⟨by rfl, ?_⟩ hS ?_
            rotate_left
            · intro w' hw'; have x0 : w'.cell? ⟨p, 0, none⟩ = some (.slice (some ⟨b, off, none⟩) n3 c) := hw'; go_simp; (try with_reducible rfl)
            simp only [Act.put, List.setIfInBounds_toArray, List.set_cons_zero, List.set_cons_succ]
            refine until_take (v := ?_) 3 77 rfl rfl (by kernel_rfl) (by kernel_rfl) (by kernel_rfl) (by kernel_rfl) (fun _ _ _ h => h) ⟨by rfl, ?_⟩ hS ?_
            rotate_left
            · intro w' hw'; have x0 : w'.cell? ⟨p, 0, none⟩ = some (.slice (some ⟨b, off, none⟩) n3 c) := hw'; go_simp; (try with_reducible rfl)
            simp only [Act.put, List.setIfInBounds_toArray, List.set_cons_zero, List.set_cons_succ]
            refine until_take (v := ?_) 4 78 rfl rfl (by kernel_rfl) (by kernel_rfl) (by kernel_rfl) (by kernel_rfl) (fun _ _ _ h => h) ⟨by rfl, ?_⟩ hS ?_
            rotate_left
            · intro w' hw'; have x0 : w'.cell? ⟨p, 0, none⟩ = some (.slice (some ⟨b, off, none⟩) n3 c) := hw'; go_simp; (try with_reducible rfl)
            simp only [Act.put, List.setIfInBounds_toArray, List.set_cons_zero, List.set_cons_succ]
            refine until_take (v := ?_) 5 79 rfl rfl (by kernel_rfl) (by kernel_rfl) (by kernel_rfl) (by kernel_rfl) (fun _ _ _ h => h) ⟨by rfl, ?_⟩ hS ?_
            rotate_left
            · intro w' hw'; have x0 : w'.cell? ⟨p, 0, none⟩ = some (.slice (some ⟨b, off, none⟩) n3 c) := hw'; go_simp; (try with_reducible rfl)
            simp only [Act.put, List.setIfInBounds_toArray, List.set_cons_zero, List.set_cons_succ]
            refine until_take (v := ?_) 6 80 rfl rfl (by kernel_rfl) (by kernel_rfl) (by kernel_rfl) (by kernel_rfl) (fun _ _ _ h => h) ⟨by rfl, ?_⟩ hS ?_
            rotate_left
            · intro w' hw'; have x0 : w'.cell? ⟨p, 0, none⟩ = some (.slice (some ⟨b, off, none⟩) n3 c) := hw'; go_simp; (try with_reducible rfl)
            simp only [Act.put, List.setIfInBounds_toArray, List.set_cons_zero, List.set_cons_succ]
            refine until_take (v := ?_) 7 81 rfl rfl (by kernel_rfl) (by kernel_rfl) (by kernel_rfl) (by kernel_rfl) (fun _ _ _ h => h) ⟨by rfl, ?_⟩ hS ?_
            rotate_left
            · intro w' hw'; have x0 : w'.cell? ⟨p, 0, none⟩ = some (.slice (some ⟨b, off, none⟩) n3 c) := hw'; go_simp; (try with_reducible rfl)
            simp only [Act.put, List.setIfInBounds_toArray, List.set_cons_zero, List.set_cons_succ]
            refine until_take (v := ?_) 9 83 rfl rfl (by kernel_rfl) (by kernel_rfl) (by kernel_rfl) (by kernel_rfl) (fun _ _ _ h => h) ⟨by rfl, ?_⟩ hS ?_
            rotate_left
            · intro w' hw'; have x0 : w'.cell? ⟨p, 0, none⟩ = some (.slice (some ⟨b, off, none⟩) n3 c) := hw'; go_simp; (try with_reducible rfl)
            simp only [Act.put, List.setIfInBounds_toArray, List.set_cons_zero, List.set_cons_succ]
            refine until_take (v := ?_) 10 84 rfl rfl (by kernel_rfl) (by kernel_rfl) (by kernel_rfl) (by kernel_rfl) (fun _ _ _ h => h) ⟨by rfl, ?_⟩ hS ?_
            rotate_left
            · intro w' hw'; have x0 : w'.cell? ⟨p, 0, none⟩ = some (.slice (some ⟨b, off, none⟩) n3 c) := hw'; go_simp; (try with_reducible rfl)
            simp only [Act.put, List.setIfInBounds_toArray, List.set_cons_zero, List.set_cons_succ]
            refine until_take (v := ?_) 11 85 rfl rfl (by kernel_rfl) (by kernel_rfl) (by kernel_rfl) (by kernel_rfl) (fun _ _ _ h => h) ⟨by rfl, ?_⟩ hS ?_
            rotate_left
            · intro w' hw'; have x0 : w'.cell? ⟨p, 0, none⟩ = some (.slice (some ⟨b, off, none⟩) n3 c) := hw'; go_simp; (try with_reducible rfl)
            simp only [Act.put, List.setIfInBounds_toArray, List.set_cons_zero, List.set_cons_succ]
            refine until_take (v := ?_) 14 88 rfl rfl (by kernel_rfl) (by kernel_rfl) (by kernel_rfl) (by kernel_rfl) (fun _ _ _ h => h) ⟨by rfl, ?_⟩ hS ?_
            rotate_left
            · intro w' hw'; have x0 : w'.cell? ⟨p, 0, none⟩ = some (.slice (some ⟨b, off, none⟩) n3 c) := hw'; go_simp; (try with_reducible rfl)
            simp only [Act.put, List.setIfInBounds_toArray, List.set_cons_zero, List.set_cons_succ]
            refine until_take (v := ?_) 15 89 rfl rfl (by kernel_rfl) (by kernel_rfl) (by kernel_rfl) (by kernel_rfl) (fun _ _ _ h => h) ⟨by rfl, ?_⟩ hS ?_
            rotate_left
            · intro w' hw'; have x0 : w'.cell? ⟨p, 0, none⟩ = some (.slice (some ⟨b, off, none⟩) n3 c) := hw'; go_simp; (try with_reducible rfl)
            simp only [Act.put, List.setIfInBounds_toArray, List.set_cons_zero, List.set_cons_succ]
            refine until_take (v := ?_) 16 90 rfl rfl (by kernel_rfl) (by kernel_rfl) (by kernel_rfl) (by kernel_rfl) (fun _ _ _ h => h) ⟨by rfl, ?_⟩ hS ?_
            rotate_left
            · intro w' hw'; have x0 : w'.cell? ⟨p, 0, none⟩ = some (.slice (some ⟨b, off, none⟩) n3 c) := hw'; go_simp; (try with_reducible rfl)
            simp only [Act.put, List.setIfInBounds_toArray, List.set_cons_zero, List.set_cons_succ]
            refine until_take (v := ?_) 17 91 rfl rfl (by kernel_rfl) (by kernel_rfl) (by kernel_rfl) (by kernel_rfl) (fun _ _ _ h => h) ⟨by rfl, ?_⟩ hS ?_
            rotate_left
            · intro w' hw'; have x0 : w'.cell? ⟨p, 0, none⟩ = some (.slice (some ⟨b, off, none⟩) n3 c) := hw'; go_simp; (try with_reducible rfl)
            simp only [Act.put, List.setIfInBounds_toArray, List.set_cons_zero, List.set_cons_succ]
            refine until_take (v := ?_) 18 92 rfl rfl (by kernel_rfl) (by kernel_rfl) (by kernel_rfl) (by kernel_rfl) (fun _ _ _ h => h) ⟨by rfl, ?_⟩ hS ?_
            rotate_left
            · intro w' hw'; have x0 : w'.cell? ⟨p, 0, none⟩ = some (.slice (some ⟨b, off, none⟩) n3 c) := hw'; go_simp; (try with_reducible rfl)
            simp only [Act.put, List.setIfInBounds_toArray, List.set_cons_zero, List.set_cons_succ]
            refine until_take (v := ?_) 19 93 rfl rfl (by kernel_rfl) (by kernel_rfl) (by kernel_rfl) (by kernel_rfl) (fun _ _ _ h => h) ⟨by rfl, ?_⟩ hS ?_
            rotate_left
            · intro w' hw'; have x0 : w'.cell? ⟨p, 0, none⟩ = some (.slice (some ⟨b, off, none⟩) n3 c) := hw'; go_simp; (try with_reducible rfl)
            simp only [Act.put, List.setIfInBounds_toArray, List.set_cons_zero, List.set_cons_succ]
            generalize (if c = k then some (⟨b, off, none⟩ : Addr) else some ⟨b, off + k * 2, none⟩) = Ad at hd ⊢
            clear f4
            refine until_two 1 12 rfl rfl (by kernel_rfl) rfl rfl (fun K hK => ?_) (fun K hK => ?_)
            · go_simp
              obtain ⟨wa, hwa⟩ : ∃ x, x = w4.alloc (.cells #[] 43) := ⟨_, rfl⟩
              have ownE : wa.ownsRow w4.heap.size 43 2 (.slice (some ⟨w4.heap.size, 0, none⟩) 0 0) 0 [] := by rw [hwa]; exact World.ownsRow_lit w4 #[] 0 (by omega) (by unfold maxLen; omega) rfl
              have hBa : Below w3.heap.size w3 wa := by rw [hwa]; exact hB4.alloc hB4.size _
              have swa : w4.heap.size < wa.heap.size := by rw [hwa]; simp
              have hSa : (fun w' : World => w'.cell? ⟨p, 0, none⟩ = some (.slice (some ⟨b, off, none⟩) n3 c)) wa := by rw [hwa]; exact (((Below.refl w4.heap.size w4).alloc (Nat.le_refl _) _).cell (p := ⟨p, 0, none⟩) (show p < _ by omega)).trans hS
              rw [← hwa]
              refine hK.out _ _ (fun _ => hSa) ?_
              clear hK K hwa
              refine until_two 8 12 rfl rfl (by kernel_rfl) rfl rfl (fun K hK => ?_) (fun K hK => ?_)
              · simp only [Go.wp_at_zero, Go.wp_at_succ]
                refine wp_append_els (C := rnC) (k := 2) _ _ _ 27 rfl w4.heap.size 43 i0 _ 16 Try.underlying27 hi hz0 hz1 hz2 rfl (by decide) (.slice (some ⟨w4.heap.size, 0, none⟩) 0 0) 0 [] rfl ownE w3.heap.size (some ⟨b, off, none⟩) c k (M.take k) rfl (ht.out.keep (hBa) (Nat.le_refl _)) hlk.symm rnC_len rnC_one (by unfold maxLen; omega) (by omega) (by omega) ?_
                intro A5 c5 wb own5 gwb kwb
                rw [Nat.zero_add] at own5 ⊢
                rw [List.nil_append] at own5
                have hob : ∀ j, (Value.slice (some ⟨w4.heap.size, 0, none⟩) 0 0).ownBlock = some j → j = w4.heap.size := fun j hj => by simpa [Value.ownBlock] using hj.symm
                have hBb : Below w3.heap.size w3 wb := hBa.grown gwb (by omega) (fun j hj => by have := hob j hj; omega)
                have swb := gwb.size
                have hSb : (fun w' : World => w'.cell? ⟨p, 0, none⟩ = some (.slice (some ⟨b, off, none⟩) n3 c)) wb := (gwb.cell_far ⟨p, 0, none⟩ (show p < wa.heap.size by omega) (fun e => by have := hob p e.symm; omega)).trans hSa
                refine hK.out _ _ (fun _ => hSb) ?_
                clear hK K
                simp only [Act.put, List.setIfInBounds_toArray, List.set_cons_zero, List.set_cons_succ]
                have Own5 := Lib.hid own5
                clear own5 gwb kwb hob
                refine until_one 12 rfl (by kernel_rfl) rfl (fun K hK => ?_)
                go_simp
                obtain ⟨wc, hwc⟩ : ∃ x, x = wb.alloc (.cells #[.int .i64 t, .int .i64 i] 43) := ⟨_, rfl⟩
                have elsB : Els rnC 2 wc wc.heap.size (some ⟨wb.heap.size, 0, none⟩) [⟨t, i⟩] := by rw [hwc]; exact els_blk rnC_len (heap_alloc_new wb _) (fun j v hj => by simpa [rnC] using hj)
                have hBc : Below w3.heap.size w3 wc := by rw [hwc]; exact hBb.alloc hBb.size _
                have swc : wb.heap.size < wc.heap.size := by rw [hwc]; simp
                have bwc : Below wb.heap.size wb wc := by rw [hwc]; exact (Below.refl _ _).alloc (Nat.le_refl _) _
                have hSc : (fun w' : World => w'.cell? ⟨p, 0, none⟩ = some (.slice (some ⟨b, off, none⟩) n3 c)) wc := (bwc.cell (p := ⟨p, 0, none⟩) (show p < _ by omega)).trans hSb
                rw [← hwc]
                refine hK.out _ _ (fun _ => hSc) ?_
                clear hK K hwc
                have own5 := own_keep Own5.out bwc
                refine until_one 13 rfl (by kernel_rfl) rfl (fun K hK => ?_)
                simp only [Go.wp_at_zero, Go.wp_at_succ]
                refine wp_append_els (C := rnC) (k := 2) _ _ _ 27 rfl w4.heap.size 43 i0 _ 16 Try.underlying27 hi hz0 hz1 hz2 rfl (by decide) (.slice A5 k c5) k _ rfl own5 _ (some ⟨wb.heap.size, 0, none⟩) 1 1 [⟨t, i⟩] rfl elsB rfl rnC_len rnC_one (by unfold maxLen; omega) (by omega) (by omega) ?_
                intro A7 c7 w7 own7 g7 k7
                have hob5 : ∀ j, (Value.slice A5 k c5).ownBlock = some j → w4.heap.size ≤ j := fun j hj => (own5.lt j hj).1
                have hB7 : Below w3.heap.size w3 w7 := hBc.grown g7 (by omega) (fun j hj => by have := hob5 j hj; omega)
                have s7 := g7.size
                have hS7 : (fun w' : World => w'.cell? ⟨p, 0, none⟩ = some (.slice (some ⟨b, off, none⟩) n3 c)) w7 := (g7.cell_far ⟨p, 0, none⟩ (show p < wc.heap.size by omega) (fun e => by have := hob5 p e.symm; omega)).trans hSc
                refine hK.out _ _ (fun _ => hS7) ?_
                clear hK K
                simp only [Act.put, List.setIfInBounds_toArray, List.set_cons_zero, List.set_cons_succ]
                refine until_one 20 rfl (by kernel_rfl) rfl (fun K hK => ?_)
                simp only [Go.wp_at_zero, Go.wp_at_succ]
                refine wp_append_els (C := rnC) (k := 2) _ _ _ 27 rfl w4.heap.size 43 i0 _ 16 Try.underlying27 hi hz0 hz1 hz2 rfl (by decide) (.slice A7 (k + 1) c7) (k + 1) _ rfl own7 w3.heap.size Ad (c - k) (n3 - k) (M.drop k) rfl (hd.out.keep hB7 (Nat.le_refl _)) hld.symm rnC_len rnC_one (by unfold maxLen; omega) (by omega) (by omega) ?_
                intro A8 c8 w8 own8 g8 k8
                have hob7 : ∀ j, (Value.slice A7 (k + 1) c7).ownBlock = some j → w4.heap.size ≤ j := fun j hj => (own7.lt j hj).1
                have hB8 : Below w3.heap.size w3 w8 := hB7.grown g8 (by omega) (fun j hj => by have := hob7 j hj; omega)
                have s8 := g8.size
                have hS8 : (fun w' : World => w'.cell? ⟨p, 0, none⟩ = some (.slice (some ⟨b, off, none⟩) n3 c)) w8 := (g8.cell_far ⟨p, 0, none⟩ (show p < w7.heap.size by omega) (fun e => by have := hob7 p e.symm; omega)).trans hS7
                have g9 : w8.frozen? ⟨p, 0, none⟩ = false := (hB8.frozen (p := ⟨p, 0, none⟩) hpl).trans H.out.1.head.2.1
                refine hK.out _ _ (fun _ => hS8) ?_
                clear hK K
                simp only [Act.put, List.setIfInBounds_toArray, List.set_cons_zero, List.set_cons_succ]
                have hS9 : w8.cell? ⟨p, 0, none⟩ = some (.slice (some ⟨b, off, none⟩) n3 c) := hS8
                refine until_one 21 rfl (by kernel_rfl) rfl (fun K hK => ?_)
                go_simp
                refine hK.out _ _ (fun _ => hS8) ?_
                clear hK K
                refine until_one 22 rfl (by kernel_rfl) rfl (fun K hK => ?_)
                go_simp
                refine hK.out _ _ (fun _ => hS8) ?_
                clear hK K
                refine until_one 23 rfl (by kernel_rfl) rfl (fun K hK => ?_)
                go_simp
                refine hK.out _ _ (fun h => absurd h (by decide)) ?_
                clear hK K
                refine until_done (by kernel_rfl) ?_
                have hM : (M.take k ++ [(⟨t, i⟩ : En)] ++ M.drop k).length = k + 1 + (n3 - k) := by rw [List.length_append, List.length_append, hlk, hld]; rfl
                have hobj : w8.heap[p]? = some (.cells #[.slice (some ⟨b, off, none⟩) n3 c] 29 (0, 0)) := (hB8.block p hpl).trans (by have := H.out.1.obj; rwa [← H.out.2.1] at this)
                have hmade := RAt.made (M := M.take k ++ [(⟨t, i⟩ : En)] ++ M.drop k) hobj (by rw [List.flatMap_append, List.flatMap_append]; exact own8) hM (by omega) (by omega)
                have HM := Lib.hid (And.intro hmade hB8)
                have HN2 := Lib.hid (And.intro HR.out.2 (TM.ins_at (x := (⟨t, i⟩ : En)) Hall.out Hno.out))
                clear hS hS7 hS8 hS9 hB7 hB8 own5 own7 own8 g7 g8 k7 k8 hob5 hob7 hobj hmade g9 hlk hld hM
                go_wp2
                go_ret
                rw [HN2.out.1, ← hMdef, HN2.out.2]
                refine ⟨rfl, _, ⟨A8, c8, HM.out.1.1, rfl⟩, hf3.trans ((Foot.of_below (F := (· = p)) HM.out.2).setCell (p := ⟨p, 0, none⟩) (.inl rfl) _) (fun j hj => .inl hj), fun j hj => ?_⟩
                rcases HM.out.1.2 j hj with e | e
                · rw [e]; exact .inl hpG
                · exact .inr (by omega)
              · go_simp
                obtain ⟨wb, hwb⟩ : ∃ x, x = wa.alloc (.cells #[.int .i64 t, .int .i64 i] 43) := ⟨_, rfl⟩
                have elsB : Els rnC 2 wb wb.heap.size (some ⟨wa.heap.size, 0, none⟩) [⟨t, i⟩] := by rw [hwb]; exact els_blk rnC_len (heap_alloc_new wa _) (fun j v hj => by simpa [rnC] using hj)
                have hBb : Below w3.heap.size w3 wb := by rw [hwb]; exact hBa.alloc hBa.size _
                have swb : wa.heap.size < wb.heap.size := by rw [hwb]; simp
                have bwb : Below wa.heap.size wa wb := by rw [hwb]; exact (Below.refl _ _).alloc (Nat.le_refl _) _
                have hSb : (fun w' : World => w'.cell? ⟨p, 0, none⟩ = some (.slice (some ⟨b, off, none⟩) n3 c)) wb := (bwb.cell (p := ⟨p, 0, none⟩) (show p < _ by omega)).trans hSa
                rw [← hwb]
                refine hK.out _ _ (fun _ => hSb) ?_
                clear hK K hwb
                have ownE := own_keep ownE bwb
                refine until_one 8 rfl (by kernel_rfl) rfl (fun K hK => ?_)
                simp only [Go.wp_at_zero, Go.wp_at_succ]
                refine wp_append_els (C := rnC) (k := 2) _ _ _ 27 rfl w4.heap.size 43 i0 _ 16 Try.underlying27 hi hz0 hz1 hz2 rfl (by decide) (.slice (some ⟨w4.heap.size, 0, none⟩) 0 0) 0 [] rfl ownE w3.heap.size (some ⟨b, off, none⟩) c k (M.take k) rfl (ht.out.keep (hBb) (Nat.le_refl _)) hlk.symm rnC_len rnC_one (by unfold maxLen; omega) (by omega) (by omega) ?_
                intro A5 c5 wc own5 gwc kwc
                rw [Nat.zero_add] at own5 ⊢
                rw [List.nil_append] at own5
                have hob : ∀ j, (Value.slice (some ⟨w4.heap.size, 0, none⟩) 0 0).ownBlock = some j → j = w4.heap.size := fun j hj => by simpa [Value.ownBlock] using hj.symm
                have hBc : Below w3.heap.size w3 wc := hBb.grown gwc (by omega) (fun j hj => by have := hob j hj; omega)
                have swc := gwc.size
                have hSc : (fun w' : World => w'.cell? ⟨p, 0, none⟩ = some (.slice (some ⟨b, off, none⟩) n3 c)) wc := (gwc.cell_far ⟨p, 0, none⟩ (show p < wb.heap.size by omega) (fun e => by have := hob p e.symm; omega)).trans hSb
                have elsB : Els rnC 2 wc wc.heap.size (some ⟨wa.heap.size, 0, none⟩) [⟨t, i⟩] := (elsB.off (w' := wc) fun b2 o2 e2 hb2 => gwc.block b2 hb2 (fun e => by have := hob b2 e.symm; injection e2 with e2; injection e2 with e2; omega)).imp swc fun _ _ _ _ hd => hd
                refine hK.out _ _ (fun _ => hSc) ?_
                clear hK K
                simp only [Act.put, List.setIfInBounds_toArray, List.set_cons_zero, List.set_cons_succ]
                refine until_one 13 rfl (by kernel_rfl) rfl (fun K hK => ?_)
                simp only [Go.wp_at_zero, Go.wp_at_succ]
                refine wp_append_els (C := rnC) (k := 2) _ _ _ 27 rfl w4.heap.size 43 i0 _ 16 Try.underlying27 hi hz0 hz1 hz2 rfl (by decide) (.slice A5 k c5) k _ rfl own5 _ (some ⟨wa.heap.size, 0, none⟩) 1 1 [⟨t, i⟩] rfl elsB rfl rnC_len rnC_one (by unfold maxLen; omega) (by omega) (by omega) ?_
                intro A7 c7 w7 own7 g7 k7
                have hob5 : ∀ j, (Value.slice A5 k c5).ownBlock = some j → w4.heap.size ≤ j := fun j hj => (own5.lt j hj).1
                have hB7 : Below w3.heap.size w3 w7 := hBc.grown g7 (by omega) (fun j hj => by have := hob5 j hj; omega)
                have s7 := g7.size
                have hS7 : (fun w' : World => w'.cell? ⟨p, 0, none⟩ = some (.slice (some ⟨b, off, none⟩) n3 c)) w7 := (g7.cell_far ⟨p, 0, none⟩ (show p < wc.heap.size by omega) (fun e => by have := hob5 p e.symm; omega)).trans hSc
                refine hK.out _ _ (fun _ => hS7) ?_
                clear hK K
                simp only [Act.put, List.setIfInBounds_toArray, List.set_cons_zero, List.set_cons_succ]
                refine until_one 20 rfl (by kernel_rfl) rfl (fun K hK => ?_)
                simp only [Go.wp_at_zero, Go.wp_at_succ]
                refine wp_append_els (C := rnC) (k := 2) _ _ _ 27 rfl w4.heap.size 43 i0 _ 16 Try.underlying27 hi hz0 hz1 hz2 rfl (by decide) (.slice A7 (k + 1) c7) (k + 1) _ rfl own7 w3.heap.size Ad (c - k) (n3 - k) (M.drop k) rfl (hd.out.keep hB7 (Nat.le_refl _)) hld.symm rnC_len rnC_one (by unfold maxLen; omega) (by omega) (by omega) ?_
                intro A8 c8 w8 own8 g8 k8
                have hob7 : ∀ j, (Value.slice A7 (k + 1) c7).ownBlock = some j → w4.heap.size ≤ j := fun j hj => (own7.lt j hj).1
                have hB8 : Below w3.heap.size w3 w8 := hB7.grown g8 (by omega) (fun j hj => by have := hob7 j hj; omega)
                have s8 := g8.size
                have hS8 : (fun w' : World => w'.cell? ⟨p, 0, none⟩ = some (.slice (some ⟨b, off, none⟩) n3 c)) w8 := (g8.cell_far ⟨p, 0, none⟩ (show p < w7.heap.size by omega) (fun e => by have := hob7 p e.symm; omega)).trans hS7
                have g9 : w8.frozen? ⟨p, 0, none⟩ = false := (hB8.frozen (p := ⟨p, 0, none⟩) hpl).trans H.out.1.head.2.1
                refine hK.out _ _ (fun _ => hS8) ?_
                clear hK K
                simp only [Act.put, List.setIfInBounds_toArray, List.set_cons_zero, List.set_cons_succ]
                have hS9 : w8.cell? ⟨p, 0, none⟩ = some (.slice (some ⟨b, off, none⟩) n3 c) := hS8
                refine until_one 21 rfl (by kernel_rfl) rfl (fun K hK => ?_)
                go_simp
                refine hK.out _ _ (fun _ => hS8) ?_
                clear hK K
                refine until_one 22 rfl (by kernel_rfl) rfl (fun K hK => ?_)
                go_simp
                refine hK.out _ _ (fun _ => hS8) ?_
                clear hK K
                refine until_one 23 rfl (by kernel_rfl) rfl (fun K hK => ?_)
                go_simp
                refine hK.out _ _ (fun h => absurd h (by decide)) ?_
                clear hK K
                refine until_done (by kernel_rfl) ?_
                have hM : (M.take k ++ [(⟨t, i⟩ : En)] ++ M.drop k).length = k + 1 + (n3 - k) := by rw [List.length_append, List.length_append, hlk, hld]; rfl
                have hobj : w8.heap[p]? = some (.cells #[.slice (some ⟨b, off, none⟩) n3 c] 29 (0, 0)) := (hB8.block p hpl).trans (by have := H.out.1.obj; rwa [← H.out.2.1] at this)
                have hmade := RAt.made (M := M.take k ++ [(⟨t, i⟩ : En)] ++ M.drop k) hobj (by rw [List.flatMap_append, List.flatMap_append]; exact own8) hM (by omega) (by omega)
                have HM := Lib.hid (And.intro hmade hB8)
                have HN2 := Lib.hid (And.intro HR.out.2 (TM.ins_at (x := (⟨t, i⟩ : En)) Hall.out Hno.out))
                clear hS hS7 hS8 hS9 hB7 hB8 own5 own7 own8 g7 g8 k7 k8 hob5 hob7 hobj hmade g9 hlk hld hM
                go_wp2
                go_ret
                rw [HN2.out.1, ← hMdef, HN2.out.2]
                refine ⟨rfl, _, ⟨A8, c8, HM.out.1.1, rfl⟩, hf3.trans ((Foot.of_below (F := (· = p)) HM.out.2).setCell (p := ⟨p, 0, none⟩) (.inl rfl) _) (fun j hj => .inl hj), fun j hj => ?_⟩
                rcases HM.out.1.2 j hj with e | e
                · rw [e]; exact .inl hpG
                · exact .inr (by omega)
            · go_simp
              obtain ⟨wa, hwa⟩ : ∃ x, x = w4.alloc (.cells #[.int .i64 t, .int .i64 i] 43) := ⟨_, rfl⟩
              have elsB : Els rnC 2 wa wa.heap.size (some ⟨w4.heap.size, 0, none⟩) [⟨t, i⟩] := by rw [hwa]; exact els_blk rnC_len (heap_alloc_new w4 _) (fun j v hj => by simpa [rnC] using hj)
              have hBa : Below w3.heap.size w3 wa := by rw [hwa]; exact hB4.alloc hB4.size _
              have swa : w4.heap.size < wa.heap.size := by rw [hwa]; simp
              have bwa : Below w4.heap.size w4 wa := by rw [hwa]; exact (Below.refl _ _).alloc (Nat.le_refl _) _
              have hSa : (fun w' : World => w'.cell? ⟨p, 0, none⟩ = some (.slice (some ⟨b, off, none⟩) n3 c)) wa := (bwa.cell (p := ⟨p, 0, none⟩) (show p < _ by omega)).trans hS
              rw [← hwa]
              refine hK.out _ _ (fun _ => hSa) ?_
              clear hK K hwa
              refine until_one 1 rfl (by kernel_rfl) rfl (fun K hK => ?_)
              go_simp
              obtain ⟨wb, hwb⟩ : ∃ x, x = wa.alloc (.cells #[] 43) := ⟨_, rfl⟩
              have ownE : wb.ownsRow w4.heap.size 43 2 (.slice (some ⟨wa.heap.size, 0, none⟩) 0 0) 0 [] := by rw [hwb]; exact World.ownsRow_lit wa #[] 0 (by omega) (by unfold maxLen; omega) rfl
              have hBb : Below w3.heap.size w3 wb := by rw [hwb]; exact hBa.alloc hBa.size _
              have swb : wa.heap.size < wb.heap.size := by rw [hwb]; simp
              have hSb : (fun w' : World => w'.cell? ⟨p, 0, none⟩ = some (.slice (some ⟨b, off, none⟩) n3 c)) wb := by rw [hwb]; exact (((Below.refl wa.heap.size wa).alloc (Nat.le_refl _) _).cell (p := ⟨p, 0, none⟩) (show p < _ by omega)).trans hSa
              have kwb : ∀ b2, b2 < wa.heap.size → wb.heap[b2]? = wa.heap[b2]? := fun b2 hb2 => by rw [hwb]; exact Below.heap_alloc wa _ b2 hb2
              rw [← hwb]
              refine hK.out _ _ (fun _ => hSb) ?_
              clear hK K hwb
              have elsB : Els rnC 2 wb wb.heap.size (some ⟨w4.heap.size, 0, none⟩) [⟨t, i⟩] := (elsB.off (w' := wb) fun b2 o2 e2 hb2 => kwb b2 hb2).imp (by omega) fun _ _ _ _ hd => hd
              refine until_one 8 rfl (by kernel_rfl) rfl (fun K hK => ?_)
              simp only [Go.wp_at_zero, Go.wp_at_succ]
              refine wp_append_els (C := rnC) (k := 2) _ _ _ 27 rfl w4.heap.size 43 i0 _ 16 Try.underlying27 hi hz0 hz1 hz2 rfl (by decide) (.slice (some ⟨wa.heap.size, 0, none⟩) 0 0) 0 [] rfl ownE w3.heap.size (some ⟨b, off, none⟩) c k (M.take k) rfl (ht.out.keep (hBb) (Nat.le_refl _)) hlk.symm rnC_len rnC_one (by unfold maxLen; omega) (by omega) (by omega) ?_
              intro A5 c5 wc own5 gwc kwc
              rw [Nat.zero_add] at own5 ⊢
              rw [List.nil_append] at own5
              have hob : ∀ j, (Value.slice (some ⟨wa.heap.size, 0, none⟩) 0 0).ownBlock = some j → j = wa.heap.size := fun j hj => by simpa [Value.ownBlock] using hj.symm
              have hBc : Below w3.heap.size w3 wc := hBb.grown gwc (by omega) (fun j hj => by have := hob j hj; omega)
              have swc := gwc.size
              have hSc : (fun w' : World => w'.cell? ⟨p, 0, none⟩ = some (.slice (some ⟨b, off, none⟩) n3 c)) wc := (gwc.cell_far ⟨p, 0, none⟩ (show p < wb.heap.size by omega) (fun e => by have := hob p e.symm; omega)).trans hSb
              have elsB : Els rnC 2 wc wc.heap.size (some ⟨w4.heap.size, 0, none⟩) [⟨t, i⟩] := (elsB.off (w' := wc) fun b2 o2 e2 hb2 => gwc.block b2 hb2 (fun e => by have := hob b2 e.symm; injection e2 with e2; injection e2 with e2; omega)).imp swc fun _ _ _ _ hd => hd
              refine hK.out _ _ (fun _ => hSc) ?_
              clear hK K
              simp only [Act.put, List.setIfInBounds_toArray, List.set_cons_zero, List.set_cons_succ]
              refine until_one 13 rfl (by kernel_rfl) rfl (fun K hK => ?_)
              simp only [Go.wp_at_zero, Go.wp_at_succ]
              refine wp_append_els (C := rnC) (k := 2) _ _ _ 27 rfl w4.heap.size 43 i0 _ 16 Try.underlying27 hi hz0 hz1 hz2 rfl (by decide) (.slice A5 k c5) k _ rfl own5 _ (some ⟨w4.heap.size, 0, none⟩) 1 1 [⟨t, i⟩] rfl elsB rfl rnC_len rnC_one (by unfold maxLen; omega) (by omega) (by omega) ?_
              intro A7 c7 w7 own7 g7 k7
              have hob5 : ∀ j, (Value.slice A5 k c5).ownBlock = some j → w4.heap.size ≤ j := fun j hj => (own5.lt j hj).1
              have hB7 : Below w3.heap.size w3 w7 := hBc.grown g7 (by omega) (fun j hj => by have := hob5 j hj; omega)
              have s7 := g7.size
              have hS7 : (fun w' : World => w'.cell? ⟨p, 0, none⟩ = some (.slice (some ⟨b, off, none⟩) n3 c)) w7 := (g7.cell_far ⟨p, 0, none⟩ (show p < wc.heap.size by omega) (fun e => by have := hob5 p e.symm; omega)).trans hSc
              refine hK.out _ _ (fun _ => hS7) ?_
              clear hK K
              simp only [Act.put, List.setIfInBounds_toArray, List.set_cons_zero, List.set_cons_succ]
              refine until_one 20 rfl (by kernel_rfl) rfl (fun K hK => ?_)
              simp only [Go.wp_at_zero, Go.wp_at_succ]
              refine wp_append_els (C := rnC) (k := 2) _ _ _ 27 rfl w4.heap.size 43 i0 _ 16 Try.underlying27 hi hz0 hz1 hz2 rfl (by decide) (.slice A7 (k + 1) c7) (k + 1) _ rfl own7 w3.heap.size Ad (c - k) (n3 - k) (M.drop k) rfl (hd.out.keep hB7 (Nat.le_refl _)) hld.symm rnC_len rnC_one (by unfold maxLen; omega) (by omega) (by omega) ?_
              intro A8 c8 w8 own8 g8 k8
              have hob7 : ∀ j, (Value.slice A7 (k + 1) c7).ownBlock = some j → w4.heap.size ≤ j := fun j hj => (own7.lt j hj).1
              have hB8 : Below w3.heap.size w3 w8 := hB7.grown g8 (by omega) (fun j hj => by have := hob7 j hj; omega)
              have s8 := g8.size
              have hS8 : (fun w' : World => w'.cell? ⟨p, 0, none⟩ = some (.slice (some ⟨b, off, none⟩) n3 c)) w8 := (g8.cell_far ⟨p, 0, none⟩ (show p < w7.heap.size by omega) (fun e => by have := hob7 p e.symm; omega)).trans hS7
              have g9 : w8.frozen? ⟨p, 0, none⟩ = false := (hB8.frozen (p := ⟨p, 0, none⟩) hpl).trans H.out.1.head.2.1
              refine hK.out _ _ (fun _ => hS8) ?_
              clear hK K
              simp only [Act.put, List.setIfInBounds_toArray, List.set_cons_zero, List.set_cons_succ]
              have hS9 : w8.cell? ⟨p, 0, none⟩ = some (.slice (some ⟨b, off, none⟩) n3 c) := hS8
              refine until_one 21 rfl (by kernel_rfl) rfl (fun K hK => ?_)
              go_simp
              refine hK.out _ _ (fun _ => hS8) ?_
              clear hK K
              refine until_one 22 rfl (by kernel_rfl) rfl (fun K hK => ?_)
              go_simp
              refine hK.out _ _ (fun _ => hS8) ?_
              clear hK K
              refine until_one 23 rfl (by kernel_rfl) rfl (fun K hK => ?_)
              go_simp
              refine hK.out _ _ (fun h => absurd h (by decide)) ?_
              clear hK K
              refine until_done (by kernel_rfl) ?_
              have hM : (M.take k ++ [(⟨t, i⟩ : En)] ++ M.drop k).length = k + 1 + (n3 - k) := by rw [List.length_append, List.length_append, hlk, hld]; rfl
              have hobj : w8.heap[p]? = some (.cells #[.slice (some ⟨b, off, none⟩) n3 c] 29 (0, 0)) := (hB8.block p hpl).trans (by have := H.out.1.obj; rwa [← H.out.2.1] at this)
              have hmade := RAt.made (M := M.take k ++ [(⟨t, i⟩ : En)] ++ M.drop k) hobj (by rw [List.flatMap_append, List.flatMap_append]; exact own8) hM (by omega) (by omega)
              have HM := Lib.hid (And.intro hmade hB8)
              have HN2 := Lib.hid (And.intro HR.out.2 (TM.ins_at (x := (⟨t, i⟩ : En)) Hall.out Hno.out))
              clear hS hS7 hS8 hS9 hB7 hB8 own5 own7 own8 g7 g8 k7 k8 hob5 hob7 hobj hmade g9 hlk hld hM
              go_wp2
              go_ret
              rw [HN2.out.1, ← hMdef, HN2.out.2]
              refine ⟨rfl, _, ⟨A8, c8, HM.out.1.1, rfl⟩, hf3.trans ((Foot.of_below (F := (· = p)) HM.out.2).setCell (p := ⟨p, 0, none⟩) (.inl rfl) _) (fun j hj => .inl hj), fun j hj => ?_⟩
              rcases HM.out.1.2 j hj with e | e
              · rw [e]; exact .inl hpG
              · exact .inr (by omega)
      · have Hno : Hid (∀ y, M[k]? = some y → TM.ltB y ⟨t, i⟩ = false) := Lib.hid (fun y hy => by
          rw [List.getElem?_eq_none (by rw [← H.out.2.1]; omega)] at hy; cases hy)
        have t5 : decide (k < n3) = false := decide_eq_false hlt
        have ht := Lib.hid (els_take H.out.1.row k c _ rfl)
        have hd := Lib.hid (els_dropA H.out.1.row k c H.out.1.room H.out.1.form)
        have hlk : (M.take k).length = k := by rw [List.length_take, ← H.out.2.1]; omega
        have hld : (M.drop k).length = n3 - k := by rw [List.length_drop, ← H.out.2.1]
        have hcb : k ≤ c := by omega
        go_wp2_with fail
        refine wp_until (fun w' : World => w'.cell? ⟨p, 0, none⟩ = some (.slice A n3 c)) 23 (by kernel_rfl) ?_
        have hS : (fun w' : World => w'.cell? ⟨p, 0, none⟩ = some (.slice A n3 c)) w3.drew := cc
        have f4 : w3.drew.frozen? ⟨p, 0, none⟩ = false := ff
        have hB4 : Below w3.heap.size w3 w3.drew := (Below.refl _ _).drew
        have hs4 : w3.heap.size = w3.drew.heap.size := rfl
        clear cc ff
        generalize w3.drew = w4 at hS f4 hB4 hs4 ⊢
        refine until_take (v := ?_) 0 74 rfl rfl (by kernel_rfl) (by kernel_rfl) (by kernel_rfl) (by kernel_rfl) (fun _ _ _ h => h) ⟨by rfl, ?_⟩ hS ?_
        rotate_left
        · intro w' hw'; have x0 : w'.cell? ⟨p, 0, none⟩ = some (.slice A n3 c) := hw'; go_simp; (try with_reducible rfl)
        simp only [Act.put, List.setIfInBounds_toArray, List.set_cons_zero, List.set_cons_succ]
        refine until_take (v := ?_) 2 76 rfl rfl (by kernel_rfl) (by kernel_rfl) (by kernel_rfl) (by kernel_rfl) (fun _ _ _ h => h) ⟨by rfl, ?_⟩ hS ?_
        rotate_left
        · intro w' hw'; have x0 : w'.cell? ⟨p, 0, none⟩ = some (.slice A n3 c) := hw'; go_simp; (try with_reducible rfl)
        simp only [Act.put, List.setIfInBounds_toArray, List.set_cons_zero, List.set_cons_succ]
        refine until_take (v := ?_) 3 77 rfl rfl (by kernel_rfl) (by kernel_rfl) (by kernel_rfl) (by kernel_rfl) (fun _ _ _ h => h) ⟨by rfl, ?_⟩ hS ?_
        rotate_left
        · intro w' hw'; have x0 : w'.cell? ⟨p, 0, none⟩ = some (.slice A n3 c) := hw'; go_simp; (try with_reducible rfl)
        simp only [Act.put, List.setIfInBounds_toArray, List.set_cons_zero, List.set_cons_succ]
        refine until_take (v := ?_) 4 78 rfl rfl (by kernel_rfl) (by kernel_rfl) (by kernel_rfl) (by kernel_rfl) (fun _ _ _ h => h) ⟨by rfl, ?_⟩ hS ?_
        rotate_left
        · intro w' hw'; have x0 : w'.cell? ⟨p, 0, none⟩ = some (.slice A n3 c) := hw'; go_simp; (try with_reducible rfl)
        simp only [Act.put, List.setIfInBounds_toArray, List.set_cons_zero, List.set_cons_succ]
        refine until_take (v := ?_) 5 79 rfl rfl (by kernel_rfl) (by kernel_rfl) (by kernel_rfl) (by kernel_rfl) (fun _ _ _ h => h) ⟨by rfl, ?_⟩ hS ?_
        rotate_left
        · intro w' hw'; have x0 : w'.cell? ⟨p, 0, none⟩ = some (.slice A n3 c) := hw'; go_simp; (try with_reducible rfl)
        simp only [Act.put, List.setIfInBounds_toArray, List.set_cons_zero, List.set_cons_succ]
        refine until_take (v := ?_) 6 80 rfl rfl (by kernel_rfl) (by kernel_rfl) (by kernel_rfl) (by kernel_rfl) (fun _ _ _ h => h) ⟨by rfl, ?_⟩ hS ?_
        rotate_left
        · intro w' hw'; have x0 : w'.cell? ⟨p, 0, none⟩ = some (.slice A n3 c) := hw'; go_simp; (try with_reducible rfl)
        simp only [Act.put, List.setIfInBounds_toArray, List.set_cons_zero, List.set_cons_succ]
        refine until_take (v := ?_) 7 81 rfl rfl (by kernel_rfl) (by kernel_rfl) (by kernel_rfl) (by kernel_rfl) (fun _ _ _ h => h) ⟨by rfl, ?_⟩ hS ?_
        rotate_left
        · intro w' hw'; have x0 : w'.cell? ⟨p, 0, none⟩ = some (.slice A n3 c) := hw'; go_simp; (try with_reducible rfl)
        simp only [Act.put, List.setIfInBounds_toArray, List.set_cons_zero, List.set_cons_succ]
        refine until_take (v := ?_) 9 83 rfl rfl (by kernel_rfl) (by kernel_rfl) (by kernel_rfl) (by kernel_rfl) (fun _ _ _ h => h) ⟨by rfl, ?_⟩ hS ?_
        rotate_left
        · intro w' hw'; have x0 : w'.cell? ⟨p, 0, none⟩ = some (.slice A n3 c) := hw'; go_simp; (try with_reducible rfl)
        simp only [Act.put, List.setIfInBounds_toArray, List.set_cons_zero, List.set_cons_succ]
        refine until_take (v := ?_) 10 84 rfl rfl (by kernel_rfl) (by kernel_rfl) (by kernel_rfl) (by kernel_rfl) (fun _ _ _ h => h) ⟨by rfl, ?_⟩ hS ?_
        rotate_left
        · intro w' hw'; have x0 : w'.cell? ⟨p, 0, none⟩ = some (.slice A n3 c) := hw'; go_simp; (try with_reducible rfl)
        simp only [Act.put, List.setIfInBounds_toArray, List.set_cons_zero, List.set_cons_succ]
        refine until_take (v := ?_) 11 85 rfl rfl (by kernel_rfl) (by kernel_rfl) (by kernel_rfl) (by kernel_rfl) (fun _ _ _ h => h) ⟨by rfl, ?_⟩ hS ?_
        rotate_left
        · intro w' hw'; have x0 : w'.cell? ⟨p, 0, none⟩ = some (.slice A n3 c) := hw'; go_simp; (try with_reducible rfl)
        simp only [Act.put, List.setIfInBounds_toArray, List.set_cons_zero, List.set_cons_succ]
        refine until_take (v := ?_) 14 88 rfl rfl (by kernel_rfl) (by kernel_rfl) (by kernel_rfl) (by kernel_rfl) (fun _ _ _ h => h) ⟨by rfl, ?_⟩ hS ?_
        rotate_left
        · intro w' hw'; have x0 : w'.cell? ⟨p, 0, none⟩ = some (.slice A n3 c) := hw'; go_simp; (try with_reducible rfl)
        simp only [Act.put, List.setIfInBounds_toArray, List.set_cons_zero, List.set_cons_succ]
        refine until_take (v := ?_) 15 89 rfl rfl (by kernel_rfl) (by kernel_rfl) (by kernel_rfl) (by kernel_rfl) (fun _ _ _ h => h) ⟨by rfl, ?_⟩ hS ?_
        rotate_left
        · intro w' hw'; have x0 : w'.cell? ⟨p, 0, none⟩ = some (.slice A n3 c) := hw'; go_simp; (try with_reducible rfl)
        simp only [Act.put, List.setIfInBounds_toArray, List.set_cons_zero, List.set_cons_succ]
        refine until_take (v := ?_) 16 90 rfl rfl (by kernel_rfl) (by kernel_rfl) (by kernel_rfl) (by kernel_rfl) (fun _ _ _ h => h) ⟨by rfl, ?_⟩ hS ?_
        rotate_left
        · intro w' hw'; have x0 : w'.cell? ⟨p, 0, none⟩ = some (.slice A n3 c) := hw'; go_simp; (try with_reducible rfl)
        simp only [Act.put, List.setIfInBounds_toArray, List.set_cons_zero, List.set_cons_succ]
        refine until_take (v := ?_) 17 91 rfl rfl (by kernel_rfl) (by kernel_rfl) (by kernel_rfl) (by kernel_rfl) (fun _ _ _ h => h) ⟨by rfl, ?_⟩ hS ?_
        rotate_left
        · intro w' hw'; have x0 : w'.cell? ⟨p, 0, none⟩ = some (.slice A n3 c) := hw'; go_simp; (try with_reducible rfl)
        simp only [Act.put, List.setIfInBounds_toArray, List.set_cons_zero, List.set_cons_succ]
        refine until_take (v := ?_) 18 92 rfl rfl (by kernel_rfl) (by kernel_rfl) (by kernel_rfl) (by kernel_rfl) (fun _ _ _ h => h) ⟨by rfl, ?_⟩ hS ?_
        rotate_left
        · intro w' hw'; have x0 : w'.cell? ⟨p, 0, none⟩ = some (.slice A n3 c) := hw'; go_simp; (try with_reducible rfl)
        simp only [Act.put, List.setIfInBounds_toArray, List.set_cons_zero, List.set_cons_succ]
        refine until_take (v := ?_) 19 93 rfl rfl (by kernel_rfl) (by kernel_rfl) (by kernel_rfl) (by kernel_rfl) (fun _ _ _ h => h) ⟨by rfl, ?_⟩ hS ?_
        rotate_left
        · intro w' hw'; have x0 : w'.cell? ⟨p, 0, none⟩ = some (.slice A n3 c) := hw'; go_simp; (try with_reducible rfl)
        simp only [Act.put, List.setIfInBounds_toArray, List.set_cons_zero, List.set_cons_succ]
        generalize (if c = k then A else Option.map (fun x => x.add (k * 2)) A) = Ad at hd ⊢
        clear f4
        refine until_two 1 12 rfl rfl (by kernel_rfl) rfl rfl (fun K hK => ?_) (fun K hK => ?_)
        · go_simp
          obtain ⟨wa, hwa⟩ : ∃ x, x = w4.alloc (.cells #[] 43) := ⟨_, rfl⟩
          have ownE : wa.ownsRow w4.heap.size 43 2 (.slice (some ⟨w4.heap.size, 0, none⟩) 0 0) 0 [] := by rw [hwa]; exact World.ownsRow_lit w4 #[] 0 (by omega) (by unfold maxLen; omega) rfl
          have hBa : Below w3.heap.size w3 wa := by rw [hwa]; exact hB4.alloc hB4.size _
          have swa : w4.heap.size < wa.heap.size := by rw [hwa]; simp
          have hSa : (fun w' : World => w'.cell? ⟨p, 0, none⟩ = some (.slice A n3 c)) wa := by rw [hwa]; exact (((Below.refl w4.heap.size w4).alloc (Nat.le_refl _) _).cell (p := ⟨p, 0, none⟩) (show p < _ by omega)).trans hS
          rw [← hwa]
          refine hK.out _ _ (fun _ => hSa) ?_
          clear hK K hwa
          refine until_two 8 12 rfl rfl (by kernel_rfl) rfl rfl (fun K hK => ?_) (fun K hK => ?_)
          · simp only [Go.wp_at_zero, Go.wp_at_succ]
            refine wp_append_els (C := rnC) (k := 2) _ _ _ 27 rfl w4.heap.size 43 i0 _ 16 Try.underlying27 hi hz0 hz1 hz2 rfl (by decide) (.slice (some ⟨w4.heap.size, 0, none⟩) 0 0) 0 [] rfl ownE w3.heap.size A c k (M.take k) rfl (ht.out.keep (hBa) (Nat.le_refl _)) hlk.symm rnC_len rnC_one (by unfold maxLen; omega) (by omega) (by omega) ?_
            intro A5 c5 wb own5 gwb kwb
            rw [Nat.zero_add] at own5 ⊢
            rw [List.nil_append] at own5
            have hob : ∀ j, (Value.slice (some ⟨w4.heap.size, 0, none⟩) 0 0).ownBlock = some j → j = w4.heap.size := fun j hj => by simpa [Value.ownBlock] using hj.symm
            have hBb : Below w3.heap.size w3 wb := hBa.grown gwb (by omega) (fun j hj => by have := hob j hj; omega)
            have swb := gwb.size
            have hSb : (fun w' : World => w'.cell? ⟨p, 0, none⟩ = some (.slice A n3 c)) wb := (gwb.cell_far ⟨p, 0, none⟩ (show p < wa.heap.size by omega) (fun e => by have := hob p e.symm; omega)).trans hSa
            refine hK.out _ _ (fun _ => hSb) ?_
            clear hK K
            simp only [Act.put, List.setIfInBounds_toArray, List.set_cons_zero, List.set_cons_succ]
            have Own5 := Lib.hid own5
            clear own5 gwb kwb hob
            refine until_one 12 rfl (by kernel_rfl) rfl (fun K hK => ?_)
            go_simp
            obtain ⟨wc, hwc⟩ : ∃ x, x = wb.alloc (.cells #[.int .i64 t, .int .i64 i] 43) := ⟨_, rfl⟩
            have elsB : Els rnC 2 wc wc.heap.size (some ⟨wb.heap.size, 0, none⟩) [⟨t, i⟩] := by rw [hwc]; exact els_blk rnC_len (heap_alloc_new wb _) (fun j v hj => by simpa [rnC] using hj)
            have hBc : Below w3.heap.size w3 wc := by rw [hwc]; exact hBb.alloc hBb.size _
            have swc : wb.heap.size < wc.heap.size := by rw [hwc]; simp
            have bwc : Below wb.heap.size wb wc := by rw [hwc]; exact (Below.refl _ _).alloc (Nat.le_refl _) _
            have hSc : (fun w' : World => w'.cell? ⟨p, 0, none⟩ = some (.slice A n3 c)) wc := (bwc.cell (p := ⟨p, 0, none⟩) (show p < _ by omega)).trans hSb
            rw [← hwc]
            refine hK.out _ _ (fun _ => hSc) ?_
            clear hK K hwc
            have own5 := own_keep Own5.out bwc
            refine until_one 13 rfl (by kernel_rfl) rfl (fun K hK => ?_)
            simp only [Go.wp_at_zero, Go.wp_at_succ]
            refine wp_append_els (C := rnC) (k := 2) _ _ _ 27 rfl w4.heap.size 43 i0 _ 16 Try.underlying27 hi hz0 hz1 hz2 rfl (by decide) (.slice A5 k c5) k _ rfl own5 _ (some ⟨wb.heap.size, 0, none⟩) 1 1 [⟨t, i⟩] rfl elsB rfl rnC_len rnC_one (by unfold maxLen; omega) (by omega) (by omega) ?_
            intro A7 c7 w7 own7 g7 k7
            have hob5 : ∀ j, (Value.slice A5 k c5).ownBlock = some j → w4.heap.size ≤ j := fun j hj => (own5.lt j hj).1
            have hB7 : Below w3.heap.size w3 w7 := hBc.grown g7 (by omega) (fun j hj => by have := hob5 j hj; omega)
            have s7 := g7.size
            have hS7 : (fun w' : World => w'.cell? ⟨p, 0, none⟩ = some (.slice A n3 c)) w7 := (g7.cell_far ⟨p, 0, none⟩ (show p < wc.heap.size by omega) (fun e => by have := hob5 p e.symm; omega)).trans hSc
            refine hK.out _ _ (fun _ => hS7) ?_
            clear hK K
            simp only [Act.put, List.setIfInBounds_toArray, List.set_cons_zero, List.set_cons_succ]
            refine until_one 20 rfl (by kernel_rfl) rfl (fun K hK => ?_)
            simp only [Go.wp_at_zero, Go.wp_at_succ]
            refine wp_append_els (C := rnC) (k := 2) _ _ _ 27 rfl w4.heap.size 43 i0 _ 16 Try.underlying27 hi hz0 hz1 hz2 rfl (by decide) (.slice A7 (k + 1) c7) (k + 1) _ rfl own7 w3.heap.size Ad (c - k) (n3 - k) (M.drop k) rfl (hd.out.keep hB7 (Nat.le_refl _)) hld.symm rnC_len rnC_one (by unfold maxLen; omega) (by omega) (by omega) ?_
            intro A8 c8 w8 own8 g8 k8
            have hob7 : ∀ j, (Value.slice A7 (k + 1) c7).ownBlock = some j → w4.heap.size ≤ j := fun j hj => (own7.lt j hj).1
            have hB8 : Below w3.heap.size w3 w8 := hB7.grown g8 (by omega) (fun j hj => by have := hob7 j hj; omega)
            have s8 := g8.size
            have hS8 : (fun w' : World => w'.cell? ⟨p, 0, none⟩ = some (.slice A n3 c)) w8 := (g8.cell_far ⟨p, 0, none⟩ (show p < w7.heap.size by omega) (fun e => by have := hob7 p e.symm; omega)).trans hS7
            have g9 : w8.frozen? ⟨p, 0, none⟩ = false := (hB8.frozen (p := ⟨p, 0, none⟩) hpl).trans H.out.1.head.2.1
            refine hK.out _ _ (fun _ => hS8) ?_
            clear hK K
            simp only [Act.put, List.setIfInBounds_toArray, List.set_cons_zero, List.set_cons_succ]
            have hS9 : w8.cell? ⟨p, 0, none⟩ = some (.slice A n3 c) := hS8
            refine until_one 21 rfl (by kernel_rfl) rfl (fun K hK => ?_)
            go_simp
            refine hK.out _ _ (fun _ => hS8) ?_
            clear hK K
            refine until_one 22 rfl (by kernel_rfl) rfl (fun K hK => ?_)
            go_simp
            refine hK.out _ _ (fun _ => hS8) ?_
            clear hK K
            refine until_one 23 rfl (by kernel_rfl) rfl (fun K hK => ?_)
            go_simp
            refine hK.out _ _ (fun h => absurd h (by decide)) ?_
            clear hK K
            refine until_done (by kernel_rfl) ?_
            have hM : (M.take k ++ [(⟨t, i⟩ : En)] ++ M.drop k).length = k + 1 + (n3 - k) := by rw [List.length_append, List.length_append, hlk, hld]; rfl
            have hobj : w8.heap[p]? = some (.cells #[.slice A n3 c] 29 (0, 0)) := (hB8.block p hpl).trans (by have := H.out.1.obj; rwa [← H.out.2.1] at this)
            have hmade := RAt.made (M := M.take k ++ [(⟨t, i⟩ : En)] ++ M.drop k) hobj (by rw [List.flatMap_append, List.flatMap_append]; exact own8) hM (by omega) (by omega)
            have HM := Lib.hid (And.intro hmade hB8)
            have HN2 := Lib.hid (And.intro HR.out.2 (TM.ins_at (x := (⟨t, i⟩ : En)) Hall.out Hno.out))
            clear hS hS7 hS8 hS9 hB7 hB8 own5 own7 own8 g7 g8 k7 k8 hob5 hob7 hobj hmade g9 hlk hld hM
            go_wp2
            go_ret
            rw [HN2.out.1, ← hMdef, HN2.out.2]
            refine ⟨rfl, _, ⟨A8, c8, HM.out.1.1, rfl⟩, hf3.trans ((Foot.of_below (F := (· = p)) HM.out.2).setCell (p := ⟨p, 0, none⟩) (.inl rfl) _) (fun j hj => .inl hj), fun j hj => ?_⟩
            rcases HM.out.1.2 j hj with e | e
            · rw [e]; exact .inl hpG
            · exact .inr (by omega)
          · go_simp
            obtain ⟨wb, hwb⟩ : ∃ x, x = wa.alloc (.cells #[.int .i64 t, .int .i64 i] 43) := ⟨_, rfl⟩
            have elsB : Els rnC 2 wb wb.heap.size (some ⟨wa.heap.size, 0, none⟩) [⟨t, i⟩] := by rw [hwb]; exact els_blk rnC_len (heap_alloc_new wa _) (fun j v hj => by simpa [rnC] using hj)
            have hBb : Below w3.heap.size w3 wb := by rw [hwb]; exact hBa.alloc hBa.size _
            have swb : wa.heap.size < wb.heap.size := by rw [hwb]; simp
            have bwb : Below wa.heap.size wa wb := by rw [hwb]; exact (Below.refl _ _).alloc (Nat.le_refl _) _
            have hSb : (fun w' : World => w'.cell? ⟨p, 0, none⟩ = some (.slice A n3 c)) wb := (bwb.cell (p := ⟨p, 0, none⟩) (show p < _ by omega)).trans hSa
            rw [← hwb]
            refine hK.out _ _ (fun _ => hSb) ?_
            clear hK K hwb
            have ownE := own_keep ownE bwb
            refine until_one 8 rfl (by kernel_rfl) rfl (fun K hK => ?_)
            simp only [Go.wp_at_zero, Go.wp_at_succ]
            refine wp_append_els (C := rnC) (k := 2) _ _ _ 27 rfl w4.heap.size 43 i0 _ 16 Try.underlying27 hi hz0 hz1 hz2 rfl (by decide) (.slice (some ⟨w4.heap.size, 0, none⟩) 0 0) 0 [] rfl ownE w3.heap.size A c k (M.take k) rfl (ht.out.keep (hBb) (Nat.le_refl _)) hlk.symm rnC_len rnC_one (by unfold maxLen; omega) (by omega) (by omega) ?_
            intro A5 c5 wc own5 gwc kwc
            rw [Nat.zero_add] at own5 ⊢
            rw [List.nil_append] at own5
            have hob : ∀ j, (Value.slice (some ⟨w4.heap.size, 0, none⟩) 0 0).ownBlock = some j → j = w4.heap.size := fun j hj => by simpa [Value.ownBlock] using hj.symm
            have hBc : Below w3.heap.size w3 wc := hBb.grown gwc (by omega) (fun j hj => by have := hob j hj; omega)
            have swc := gwc.size
            have hSc : (fun w' : World => w'.cell? ⟨p, 0, none⟩ = some (.slice A n3 c)) wc := (gwc.cell_far ⟨p, 0, none⟩ (show p < wb.heap.size by omega) (fun e => by have := hob p e.symm; omega)).trans hSb
            have elsB : Els rnC 2 wc wc.heap.size (some ⟨wa.heap.size, 0, none⟩) [⟨t, i⟩] := (elsB.off (w' := wc) fun b2 o2 e2 hb2 => gwc.block b2 hb2 (fun e => by have := hob b2 e.symm; injection e2 with e2; injection e2 with e2; omega)).imp swc fun _ _ _ _ hd => hd
            refine hK.out _ _ (fun _ => hSc) ?_
            clear hK K
            simp only [Act.put, List.setIfInBounds_toArray, List.set_cons_zero, List.set_cons_succ]
            refine until_one 13 rfl (by kernel_rfl) rfl (fun K hK => ?_)
            simp only [Go.wp_at_zero, Go.wp_at_succ]
            refine wp_append_els (C := rnC) (k := 2) _ _ _ 27 rfl w4.heap.size 43 i0 _ 16 Try.underlying27 hi hz0 hz1 hz2 rfl (by decide) (.slice A5 k c5) k _ rfl own5 _ (some ⟨wa.heap.size, 0, none⟩) 1 1 [⟨t, i⟩] rfl elsB rfl rnC_len rnC_one (by unfold maxLen; omega) (by omega) (by omega) ?_
            intro A7 c7 w7 own7 g7 k7
            have hob5 : ∀ j, (Value.slice A5 k c5).ownBlock = some j → w4.heap.size ≤ j := fun j hj => (own5.lt j hj).1
            have hB7 : Below w3.heap.size w3 w7 := hBc.grown g7 (by omega) (fun j hj => by have := hob5 j hj; omega)
            have s7 := g7.size
            have hS7 : (fun w' : World => w'.cell? ⟨p, 0, none⟩ = some (.slice A n3 c)) w7 := (g7.cell_far ⟨p, 0, none⟩ (show p < wc.heap.size by omega) (fun e => by have := hob5 p e.symm; omega)).trans hSc
            refine hK.out _ _ (fun _ => hS7) ?_
            clear hK K
            simp only [Act.put, List.setIfInBounds_toArray, List.set_cons_zero, List.set_cons_succ]
            refine until_one 20 rfl (by kernel_rfl) rfl (fun K hK => ?_)
            simp only [Go.wp_at_zero, Go.wp_at_succ]
            refine wp_append_els (C := rnC) (k := 2) _ _ _ 27 rfl w4.heap.size 43 i0 _ 16 Try.underlying27 hi hz0 hz1 hz2 rfl (by decide) (.slice A7 (k + 1) c7) (k + 1) _ rfl own7 w3.heap.size Ad (c - k) (n3 - k) (M.drop k) rfl (hd.out.keep hB7 (Nat.le_refl _)) hld.symm rnC_len rnC_one (by unfold maxLen; omega) (by omega) (by omega) ?_
            intro A8 c8 w8 own8 g8 k8
            have hob7 : ∀ j, (Value.slice A7 (k + 1) c7).ownBlock = some j → w4.heap.size ≤ j := fun j hj => (own7.lt j hj).1
            have hB8 : Below w3.heap.size w3 w8 := hB7.grown g8 (by omega) (fun j hj => by have := hob7 j hj; omega)
            have s8 := g8.size
            have hS8 : (fun w' : World => w'.cell? ⟨p, 0, none⟩ = some (.slice A n3 c)) w8 := (g8.cell_far ⟨p, 0, none⟩ (show p < w7.heap.size by omega) (fun e => by have := hob7 p e.symm; omega)).trans hS7
            have g9 : w8.frozen? ⟨p, 0, none⟩ = false := (hB8.frozen (p := ⟨p, 0, none⟩) hpl).trans H.out.1.head.2.1
            refine hK.out _ _ (fun _ => hS8) ?_
            clear hK K
            simp only [Act.put, List.setIfInBounds_toArray, List.set_cons_zero, List.set_cons_succ]
            have hS9 : w8.cell? ⟨p, 0, none⟩ = some (.slice A n3 c) := hS8
            refine until_one 21 rfl (by kernel_rfl) rfl (fun K hK => ?_)
            go_simp
            refine hK.out _ _ (fun _ => hS8) ?_
            clear hK K
            refine until_one 22 rfl (by kernel_rfl) rfl (fun K hK => ?_)
            go_simp
            refine hK.out _ _ (fun _ => hS8) ?_
            clear hK K
            refine until_one 23 rfl (by kernel_rfl) rfl (fun K hK => ?_)
            go_simp
            refine hK.out _ _ (fun h => absurd h (by decide)) ?_
            clear hK K
            refine until_done (by kernel_rfl) ?_
            have hM : (M.take k ++ [(⟨t, i⟩ : En)] ++ M.drop k).length = k + 1 + (n3 - k) := by rw [List.length_append, List.length_append, hlk, hld]; rfl
            have hobj : w8.heap[p]? = some (.cells #[.slice A n3 c] 29 (0, 0)) := (hB8.block p hpl).trans (by have := H.out.1.obj; rwa [← H.out.2.1] at this)
            have hmade := RAt.made (M := M.take k ++ [(⟨t, i⟩ : En)] ++ M.drop k) hobj (by rw [List.flatMap_append, List.flatMap_append]; exact own8) hM (by omega) (by omega)
            have HM := Lib.hid (And.intro hmade hB8)
            have HN2 := Lib.hid (And.intro HR.out.2 (TM.ins_at (x := (⟨t, i⟩ : En)) Hall.out Hno.out))
            clear hS hS7 hS8 hS9 hB7 hB8 own5 own7 own8 g7 g8 k7 k8 hob5 hob7 hobj hmade g9 hlk hld hM
            go_wp2
            go_ret
            rw [HN2.out.1, ← hMdef, HN2.out.2]
            refine ⟨rfl, _, ⟨A8, c8, HM.out.1.1, rfl⟩, hf3.trans ((Foot.of_below (F := (· = p)) HM.out.2).setCell (p := ⟨p, 0, none⟩) (.inl rfl) _) (fun j hj => .inl hj), fun j hj => ?_⟩
            rcases HM.out.1.2 j hj with e | e
            · rw [e]; exact .inl hpG
            · exact .inr (by omega)
        · go_simp
          obtain ⟨wa, hwa⟩ : ∃ x, x = w4.alloc (.cells #[.int .i64 t, .int .i64 i] 43) := ⟨_, rfl⟩
          have elsB : Els rnC 2 wa wa.heap.size (some ⟨w4.heap.size, 0, none⟩) [⟨t, i⟩] := by rw [hwa]; exact els_blk rnC_len (heap_alloc_new w4 _) (fun j v hj => by simpa [rnC] using hj)
          have hBa : Below w3.heap.size w3 wa := by rw [hwa]; exact hB4.alloc hB4.size _
          have swa : w4.heap.size < wa.heap.size := by rw [hwa]; simp
          have bwa : Below w4.heap.size w4 wa := by rw [hwa]; exact (Below.refl _ _).alloc (Nat.le_refl _) _
          have hSa : (fun w' : World => w'.cell? ⟨p, 0, none⟩ = some (.slice A n3 c)) wa := (bwa.cell (p := ⟨p, 0, none⟩) (show p < _ by omega)).trans hS
          rw [← hwa]
          refine hK.out _ _ (fun _ => hSa) ?_
          clear hK K hwa
          refine until_one 1 rfl (by kernel_rfl) rfl (fun K hK => ?_)
          go_simp
          obtain ⟨wb, hwb⟩ : ∃ x, x = wa.alloc (.cells #[] 43) := ⟨_, rfl⟩
          have ownE : wb.ownsRow w4.heap.size 43 2 (.slice (some ⟨wa.heap.size, 0, none⟩) 0 0) 0 [] := by rw [hwb]; exact World.ownsRow_lit wa #[] 0 (by omega) (by unfold maxLen; omega) rfl
          have hBb : Below w3.heap.size w3 wb := by rw [hwb]; exact hBa.alloc hBa.size _
          have swb : wa.heap.size < wb.heap.size := by rw [hwb]; simp
          have hSb : (fun w' : World => w'.cell? ⟨p, 0, none⟩ = some (.slice A n3 c)) wb := by rw [hwb]; exact (((Below.refl wa.heap.size wa).alloc (Nat.le_refl _) _).cell (p := ⟨p, 0, none⟩) (show p < _ by omega)).trans hSa
          have kwb : ∀ b2, b2 < wa.heap.size → wb.heap[b2]? = wa.heap[b2]? := fun b2 hb2 => by rw [hwb]; exact Below.heap_alloc wa _ b2 hb2
          rw [← hwb]
          refine hK.out _ _ (fun _ => hSb) ?_
          clear hK K hwb
          have elsB : Els rnC 2 wb wb.heap.size (some ⟨w4.heap.size, 0, none⟩) [⟨t, i⟩] := (elsB.off (w' := wb) fun b2 o2 e2 hb2 => kwb b2 hb2).imp (by omega) fun _ _ _ _ hd => hd
          refine until_one 8 rfl (by kernel_rfl) rfl (fun K hK => ?_)
          simp only [Go.wp_at_zero, Go.wp_at_succ]
          refine wp_append_els (C := rnC) (k := 2) _ _ _ 27 rfl w4.heap.size 43 i0 _ 16 Try.underlying27 hi hz0 hz1 hz2 rfl (by decide) (.slice (some ⟨wa.heap.size, 0, none⟩) 0 0) 0 [] rfl ownE w3.heap.size A c k (M.take k) rfl (ht.out.keep (hBb) (Nat.le_refl _)) hlk.symm rnC_len rnC_one (by unfold maxLen; omega) (by omega) (by omega) ?_
          intro A5 c5 wc own5 gwc kwc
          rw [Nat.zero_add] at own5 ⊢
          rw [List.nil_append] at own5
          have hob : ∀ j, (Value.slice (some ⟨wa.heap.size, 0, none⟩) 0 0).ownBlock = some j → j = wa.heap.size := fun j hj => by simpa [Value.ownBlock] using hj.symm
          have hBc : Below w3.heap.size w3 wc := hBb.grown gwc (by omega) (fun j hj => by have := hob j hj; omega)
          have swc := gwc.size
          have hSc : (fun w' : World => w'.cell? ⟨p, 0, none⟩ = some (.slice A n3 c)) wc := (gwc.cell_far ⟨p, 0, none⟩ (show p < wb.heap.size by omega) (fun e => by have := hob p e.symm; omega)).trans hSb
          have elsB : Els rnC 2 wc wc.heap.size (some ⟨w4.heap.size, 0, none⟩) [⟨t, i⟩] := (elsB.off (w' := wc) fun b2 o2 e2 hb2 => gwc.block b2 hb2 (fun e => by have := hob b2 e.symm; injection e2 with e2; injection e2 with e2; omega)).imp swc fun _ _ _ _ hd => hd
          refine hK.out _ _ (fun _ => hSc) ?_
          clear hK K
          simp only [Act.put, List.setIfInBounds_toArray, List.set_cons_zero, List.set_cons_succ]
          refine until_one 13 rfl (by kernel_rfl) rfl (fun K hK => ?_)
          simp only [Go.wp_at_zero, Go.wp_at_succ]
          refine wp_append_els (C := rnC) (k := 2) _ _ _ 27 rfl w4.heap.size 43 i0 _ 16 Try.underlying27 hi hz0 hz1 hz2 rfl (by decide) (.slice A5 k c5) k _ rfl own5 _ (some ⟨w4.heap.size, 0, none⟩) 1 1 [⟨t, i⟩] rfl elsB rfl rnC_len rnC_one (by unfold maxLen; omega) (by omega) (by omega) ?_
          intro A7 c7 w7 own7 g7 k7
          have hob5 : ∀ j, (Value.slice A5 k c5).ownBlock = some j → w4.heap.size ≤ j := fun j hj => (own5.lt j hj).1
          have hB7 : Below w3.heap.size w3 w7 := hBc.grown g7 (by omega) (fun j hj => by have := hob5 j hj; omega)
          have s7 := g7.size
          have hS7 : (fun w' : World => w'.cell? ⟨p, 0, none⟩ = some (.slice A n3 c)) w7 := (g7.cell_far ⟨p, 0, none⟩ (show p < wc.heap.size by omega) (fun e => by have := hob5 p e.symm; omega)).trans hSc
          refine hK.out _ _ (fun _ => hS7) ?_
          clear hK K
          simp only [Act.put, List.setIfInBounds_toArray, List.set_cons_zero, List.set_cons_succ]
          refine until_one 20 rfl (by kernel_rfl) rfl (fun K hK => ?_)
          simp only [Go.wp_at_zero, Go.wp_at_succ]
          refine wp_append_els (C := rnC) (k := 2) _ _ _ 27 rfl w4.heap.size 43 i0 _ 16 Try.underlying27 hi hz0 hz1 hz2 rfl (by decide) (.slice A7 (k + 1) c7) (k + 1) _ rfl own7 w3.heap.size Ad (c - k) (n3 - k) (M.drop k) rfl (hd.out.keep hB7 (Nat.le_refl _)) hld.symm rnC_len rnC_one (by unfold maxLen; omega) (by omega) (by omega) ?_
          intro A8 c8 w8 own8 g8 k8
          have hob7 : ∀ j, (Value.slice A7 (k + 1) c7).ownBlock = some j → w4.heap.size ≤ j := fun j hj => (own7.lt j hj).1
          have hB8 : Below w3.heap.size w3 w8 := hB7.grown g8 (by omega) (fun j hj => by have := hob7 j hj; omega)
          have s8 := g8.size
          have hS8 : (fun w' : World => w'.cell? ⟨p, 0, none⟩ = some (.slice A n3 c)) w8 := (g8.cell_far ⟨p, 0, none⟩ (show p < w7.heap.size by omega) (fun e => by have := hob7 p e.symm; omega)).trans hS7
          have g9 : w8.frozen? ⟨p, 0, none⟩ = false := (hB8.frozen (p := ⟨p, 0, none⟩) hpl).trans H.out.1.head.2.1
          refine hK.out _ _ (fun _ => hS8) ?_
          clear hK K
          simp only [Act.put, List.setIfInBounds_toArray, List.set_cons_zero, List.set_cons_succ]
          have hS9 : w8.cell? ⟨p, 0, none⟩ = some (.slice A n3 c) := hS8
          refine until_one 21 rfl (by kernel_rfl) rfl (fun K hK => ?_)
          go_simp
          refine hK.out _ _ (fun _ => hS8) ?_
          clear hK K
          refine until_one 22 rfl (by kernel_rfl) rfl (fun K hK => ?_)
          go_simp
          refine hK.out _ _ (fun _ => hS8) ?_
          clear hK K
          refine until_one 23 rfl (by kernel_rfl) rfl (fun K hK => ?_)
          go_simp
          refine hK.out _ _ (fun h => absurd h (by decide)) ?_
          clear hK K
          refine until_done (by kernel_rfl) ?_
          have hM : (M.take k ++ [(⟨t, i⟩ : En)] ++ M.drop k).length = k + 1 + (n3 - k) := by rw [List.length_append, List.length_append, hlk, hld]; rfl
          have hobj : w8.heap[p]? = some (.cells #[.slice A n3 c] 29 (0, 0)) := (hB8.block p hpl).trans (by have := H.out.1.obj; rwa [← H.out.2.1] at this)
          have hmade := RAt.made (M := M.take k ++ [(⟨t, i⟩ : En)] ++ M.drop k) hobj (by rw [List.flatMap_append, List.flatMap_append]; exact own8) hM (by omega) (by omega)
          have HM := Lib.hid (And.intro hmade hB8)
          have HN2 := Lib.hid (And.intro HR.out.2 (TM.ins_at (x := (⟨t, i⟩ : En)) Hall.out Hno.out))
          clear hS hS7 hS8 hS9 hB7 hB8 own5 own7 own8 g7 g8 k7 k8 hob5 hob7 hobj hmade g9 hlk hld hM
          go_wp2
          go_ret
          rw [HN2.out.1, ← hMdef, HN2.out.2]
          refine ⟨rfl, _, ⟨A8, c8, HM.out.1.1, rfl⟩, hf3.trans ((Foot.of_below (F := (· = p)) HM.out.2).setCell (p := ⟨p, 0, none⟩) (.inl rfl) _) (fun j hj => .inl hj), fun j hj => ?_⟩
          rcases HM.out.1.2 j hj with e | e
          · rw [e]; exact .inl hpG
          · exact .inr (by omega)
end Go.Proofs.Ytdoaihmeldkahaa
