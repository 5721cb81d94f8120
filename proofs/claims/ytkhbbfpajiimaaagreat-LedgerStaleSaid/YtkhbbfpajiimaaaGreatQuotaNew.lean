/- Accounts: Left, Used, New. -/
import Derived.Deep.AppendLies
import Derived.Laws.OwnMore
import Derived.RegionTactic
import Derived.BigRegion
import Derived.Test.YtkhbbfpajiimaaaGreatElem
import Derived.Test.YtkhbbfpajiimaaaGreatQuotaAdd
set_option linter.unusedVariables false
namespace Go.Proofs.YtkhbbfpajiimaaaGreat
open Go.RowKit

theorem pair_put2 {w w1 : World} {G : Nat} {v0 v1 : Value} (h1 : Below w.heap.size w w1) (hG : w.heap.size ≤ G) :
    Below w.heap.size w ((w1.setCell ⟨G, 0, none⟩ v0).setCell ⟨G, 1, none⟩ v1) := (h1.setCell (p := ⟨G, 0, none⟩) hG _).setCell (p := ⟨G, 1, none⟩) hG _
set_option maxHeartbeats 1000000 in
theorem left_q (p g c : Nat) (l : List Qa) (q : Int) (w : World) (h : QAt w p g c l) :
    Calls Tryz.prog 71 #[.pointer (some ⟨p, 0, none⟩), .int .i64 q] w fun e w' => e = .returned (.tuple #[unV (qLeft l q).1, .int .i64 (qLeft l q).2]) ∧ Below w.heap.size w w' := by
  have hB1 := (Below.refl w.heap.size w).alloc (Nat.le_refl _) (.cells #[.int .i64 0, .int .i64 0] 58)
  have hG := heap_alloc_new w (.cells #[.int .i64 0, .int .i64 0] 58)
  have hH := Lib.hid (hasq_any p g c l q _ (h.keep hB1))
  obtain ⟨R, hR⟩ : ∃ R, R = qLeft l q := ⟨_, rfl⟩
  rw [← hR]
  unfold qLeft at hR
  have HB := Lib.hid hB1
  have HG := Lib.hid hG
  obtain ⟨y0, y1, y2, y3, y4⟩ := pair_at hG
  cases hq : hasQ l q
  · rw [hq] at hH
    rw [hq, if_pos rfl] at hR
    subst hR
    clear h hq hB1 hG
    simp only [unV] at *
    go_enter Tryz.func71, Tryz.ntmps71
    go_wp2_with (go_at_call 106; refine hH.out.mono ?_; rintro e w1 ⟨rfl, rfl⟩)
    refine bodyPost_ret (v := .tuple #[.agg #[.int .i64 0, .int .i64 0], .int .i64 3]) (by simp [results, Tryz.results71, go_sem, y0, y1]) rfl ?_
    exact ⟨rfl, HB.out⟩
  · rw [hq] at hH
    rw [hq, if_neg (by simp)] at hR
    obtain ⟨k, x, rfl, hkl, hx⟩ := hasQ_at hq
    simp only [Int.toNat_natCast, hx] at hR
    subst hR
    have hL := Lib.hid (fun W => left_any x W (h.ok x (List.mem_of_getElem? hx)))
    obtain ⟨d0, d1, d2, d3, _, _⟩ := (h.keep hB1).cells hx
    have c0 := (h.keep hB1).head
    obtain ⟨n, hn⟩ : ∃ n, n = l.length := ⟨_, rfl⟩
    rw [← hn] at hkl c0
    have hfew := h.few
    rw [← hn] at hfew
    obtain ⟨⟨mg, mc⟩, ⟨ug, uc⟩⟩ := x
    simp only [unV, subU, qaV] at *
    obtain ⟨X, hX⟩ : ∃ X, X = mg - ug := ⟨_, rfl⟩
    obtain ⟨Y, hY⟩ : ∃ Y, Y = mc - uc := ⟨_, rfl⟩
    rw [← hX, ← hY] at hL ⊢
    clear h hq hB1 hG hX hY hx hn
    go_enter Tryz.func71, Tryz.ntmps71
    go_wp2_with (first
      | (go_at_call 106; refine hH.out.mono ?_; rintro e w1 ⟨rfl, rfl⟩)
      | (go_at_call 107; refine (hL.out _).mono ?_; rintro e w2 ⟨rfl, hb2⟩; obtain ⟨z0, z1, z2, z3, z4⟩ := pair_at ((hb2.block w.heap.size (by simp)).trans HG.out)))
    refine bodyPost_ret (v := .tuple #[.agg #[.int .i64 X, .int .i64 Y], .int .i64 0]) (by simp [results, Tryz.results71, go_sem, z0, z1]) rfl ?_
    exact ⟨rfl, pair_put2 (below_step HB.out hb2) (Nat.le_refl _)⟩
def uC (u : Un) : List Value := [.int .i64 u.g, .int .i64 u.c]
theorem uC_len (u : Un) : (uC u).length = 2 := rfl
theorem uC_one (u : Un) : ∀ v ∈ uC u, v.oneCell' = true := by
  intro v hv
  simp [uC] at hv
  rcases hv with rfl | rfl <;> rfl
abbrev Uns (w : World) (B : Nat) (A : Option Addr) (l : List Un) : Prop := Els uC 2 w B A l
theorem info_un : (Tryz.prog.info? 58).map (fun i => (i.zero, i.size, i.bytes)) = some (some (.agg #[.int .i64 0, .int .i64 0]), 2, 16) := by kernel_rfl
theorem info_acc : (Tryz.prog.info? 157).map (fun i => (i.zero, i.size, i.bytes)) = some (some (.agg #[.int .i64 0, .int .i64 0, .int .i64 0, .int .i64 0]), 4, 32) := by kernel_rfl
set_option maxRecDepth 100000 in
set_option maxHeartbeats 2000000 in
theorem used_q (p g c : Nat) (l : List Qa) (w : World) (h : QAt w p g c l) :
    Calls Tryz.prog 65 #[.pointer (some ⟨p, 0, none⟩)] w fun e w' => ∃ A c', e = .returned (.slice A l.length c') ∧ Uns w' w'.heap.size A (l.map (·.u)) ∧ (∀ b off, A = some ⟨b, off, none⟩ → w.heap.size ≤ b ∧ b < w'.heap.size) ∧ Below w.heap.size w w' := by
  have c0 := h.head
  obtain ⟨n, hn⟩ : ∃ n, n = l.length := ⟨_, rfl⟩
  have hfew := h.few
  rw [← hn] at c0 hfew ⊢
  have H := Lib.hid (And.intro h hn)
  obtain ⟨i0, hi, hz0, hz1, hz2⟩ := info_parts info_un
  clear h hn
  go_enter Tryz.func65, Tryz.ntmps65
  go_wp2_with fail
  go_loopw [3, 11] (fun v i wr => ∃ (k : Nat) (A : Option Addr) (cp : Nat), i = .int .i64 k ∧ v = .slice A k cp ∧ k ≤ n ∧ Hid (Below w.heap.size w wr ∧ wr.ownsRow w.heap.size 58 2 (.slice A k cp) k (((l.take k).map (·.u)).flatMap uC))) (fun _ i _ => n - (intOf i).toNat)
  case atStart => exact ⟨0, none, 0, rfl, rfl, by omega, Lib.hid ⟨Below.refl _ _, World.ownsRow_nil _ _ _ _⟩⟩
  case round =>
    obtain ⟨k, A, cp, rfl, rfl, hk, hin⟩ := hrel
    obtain ⟨hBl, hown⟩ := hin.out
    by_cases hlt : k < n
    · obtain ⟨x, hx⟩ := get_lt (l := l) (k := k) (by rw [← H.out.2]; exact hlt)
      have hq := H.out.1.keep hBl
      obtain ⟨d0, d1, d2, d3, _, _⟩ := hq.cells hx
      have hsz := hBl.size
      have t0 : decide (k < n) = true := decide_eq_true hlt
      have hgl := hq.lt.2
      have N := Lib.hid (show ((l.take (k + 1)).map (·.u)).flatMap uC = ((l.take k).map (·.u)).flatMap uC ++ uC x.u by rw [take_next hx, List.map_append, List.flatMap_append]; simp)
      obtain ⟨⟨mg, mc⟩, ⟨ug, uc⟩⟩ := x
      simp only at d0 d1 d2 d3 N
      clear hx hq hin
      obtain ⟨W, hW⟩ : ∃ W, W = (wr.alloc (.cells #[.int .i64 mg, .int .i64 mc, .int .i64 ug, .int .i64 uc] 157)).alloc (.cells #[.int .i64 ug, .int .i64 uc] 58) := ⟨_, rfl⟩
      have hBW : Below wr.heap.size wr W := by rw [hW]; exact ((Below.refl _ _).alloc (Nat.le_refl _) _).alloc (by simp) _
      have hNW : W.heap[wr.heap.size + 1]? = some (.cells #[.int .i64 ug, .int .i64 uc] 58 (0, 0)) := by
        have := heap_alloc_new (wr.alloc (.cells #[.int .i64 mg, .int .i64 mc, .int .i64 ug, .int .i64 uc] 157)) (.cells #[.int .i64 ug, .int .i64 uc] 58)
        rw [World.size_alloc] at this
        rw [hW]; exact this
      have hWs : W.heap.size = wr.heap.size + 1 + 1 := by rw [hW]; simp
      have HW := Lib.hid (And.intro hBW (And.intro hNW (And.intro hWs (And.intro hBl (And.intro hown hW)))))
      clear hBW hNW hWs hBl hown hW
      go_wp2_with (at_builtin; refine wpList_append_lies _ rfl _ _ 25 rfl w.heap.size 58 i0 _ 2 16 Tryz.underlying25 hi hz0 hz1 hz2 rfl (by decide) (.slice A k cp) k (((l.take k).map (·.u)).flatMap uC) rfl (by have := own_keep HW.out.2.2.2.2.1 HW.out.1; rw [HW.out.2.2.2.2.2] at this; exact this) ⟨wr.heap.size + 1, 0, none⟩ 1 1 [.int .i64 ug, .int .i64 uc] rfl rfl (World.news_of_block (cs := #[.int .i64 ug, .int .i64 uc]) (t := 58) (fr := (0, 0)) (by have := HW.out.2.1; rw [HW.out.2.2.2.2.2] at this; exact this)) (by simp [Value.oneCell']) (by omega) (by unfold maxLen; omega) (by omega) (by simp; omega) (wr.heap.size + 1 + 1) (by simp) ?_; intro gg cap' w3 hown3 hgrow hat hlt3)
      have hB3 : Below w.heap.size w w3 := by
        have e := HW.out.2.2.2.2.2
        have h9 := HW.out.2.2.2.1.trans (HW.out.1.mono hsz)
        rw [e] at h9
        exact h9.grown hgrow (by simp; omega) (fun i e => (HW.out.2.2.2.2.1.lt i e).1)
      go_roundw
      case rel => exact ⟨k + 1, some ⟨gg, 0, none⟩, cap', by go_num, rfl, by omega, Lib.hid ⟨hB3, by rw [N.out]; exact hown3⟩⟩
      case measure => simp [intOf]; omega
    · obtain rfl : k = n := by omega
      have e : l.take k = l := by rw [H.out.2]; exact List.take_length
      rw [e] at hown
      have OW := Lib.hid (And.intro hBl hown)
      clear hown hBl hlt e hin
      go_wp2
      go_ret
      obtain ⟨h1, h2⟩ := els_own uC_len OW.out.2 (by rw [List.length_map]; exact H.out.2.symm)
      exact ⟨A, cp, rfl, h1, h2, OW.out.1⟩
def newA (u : Un) : Qa := ⟨u, ⟨0, 0⟩⟩
def newL (l : List Un) : List Qa := l.map newA
def quotasOk (l : List Un) : Bool := decide (1 ≤ l.length) && decide (l.length ≤ 8) && l.all mayU
theorem quotasOk_iff {l : List Un} : quotasOk l = true ↔ 1 ≤ l.length ∧ l.length ≤ 8 ∧ l.all mayU = true := by
  unfold quotasOk; simp [Bool.and_eq_true, and_assoc]
theorem qaC_len1 (x : Qa) : (qaC x).length = 4 := rfl
theorem newA_ok {u : Un} (h : mayU u = true) : QaOk (newA u) := by
  obtain ⟨h1, h2, h3, h4⟩ := mayU_iff.1 h
  exact ⟨h, ⟨by simp [newA], by simpa [newA] using h1⟩, ⟨by simp [newA], by simpa [newA] using h3⟩⟩
theorem own_form {w : World} {B k n : Nat} {t : TypeId} {v : Value} {xs : List Value} (h : w.ownsRow B t k v n xs) : ∃ A c, v = .slice A n c := by
  rcases h.2 with ⟨rfl, h0⟩ | ⟨g, cap, cur, rfl, _⟩
  · exact ⟨none, 0, by rw [h0]⟩
  · exact ⟨_, _, rfl⟩
/-- Made accounts, whole. -/
theorem QAt.made {w : World} {p n : Nat} {v : Value} {l : List Un} (hl : quotasOk l = true) (hn : l.length = n) (hp : w.heap[p]? = some (.cells #[v] 153 (0, 0))) (ho : w.ownsRow (p + 1) 157 4 v n ((newL l).flatMap qaC)) :
    ∃ g c, QAt w p g c (newL l) ∧ p < g := by
  obtain ⟨h1, h2, h3⟩ := quotasOk_iff.1 hl
  rcases ho.2 with ⟨rfl, h0⟩ | ⟨g, cap, cur, rfl, hg, hb, _, _, _, ht⟩
  · omega
  · refine ⟨g, cap, ⟨by unfold newL; rw [List.length_map]; exact h2, fun x hx => ?_, ?_, cur, hb, fun j v hj => ?_⟩, by omega⟩
    · obtain ⟨u, hu, rfl⟩ := List.mem_map.1 hx
      exact newA_ok (List.all_eq_true.1 h3 u hu)
    · unfold newL; rw [List.length_map, hn]; exact hp
    · rw [← ht, List.getElem?_take] at hj
      split at hj
      · simpa using hj
      · cases hj
/-- What New answers, and leaves. -/
def NewQ (l : List Un) (w : World) (e : Ending) (w' : World) : Prop := Below w.heap.size w w' ∧ ((quotasOk l = false ∧ e = .returned (.tuple #[.pointer none, .int .i64 1])) ∨
  (quotasOk l = true ∧ ∃ p g c, e = .returned (.tuple #[.pointer (some ⟨p, 0, none⟩), .int .i64 0]) ∧ QAt w' p g c (newL l) ∧ w.heap.size ≤ p ∧ w.heap.size ≤ g))
set_option maxRecDepth 100000 in
set_option maxHeartbeats 4000000 in
theorem new_q (A : Option Addr) (cc B : Nat) (l : List Un) (w : World) (h : Uns w B A l) (hB : B ≤ w.heap.size) :
    Calls Tryz.prog 31 #[.slice A l.length cc] w fun e w' => NewQ l w e w' := by
  obtain ⟨n, hn⟩ : ∃ n, n = l.length := ⟨_, rfl⟩
  have H := Lib.hid (And.intro h hn)
  by_cases h1 : n < 1
  · have t0 : decide (n < 1) = true := decide_eq_true h1
    have hq : quotasOk l = false := by unfold quotasOk; rw [decide_eq_false (by omega)]; rfl
    rw [← hn]
    clear h hn
    go_enter Tryz.func31, Tryz.ntmps31
    go_wp2
    go_ret2
    exact ⟨Below.refl _ _, .inl ⟨hq, rfl⟩⟩
  have t0 : decide (n < 1) = false := decide_eq_false h1
  by_cases h8 : 8 < n
  · have t1 : decide (8 < n) = true := decide_eq_true h8
    have hq : quotasOk l = false := by unfold quotasOk; rw [decide_eq_false (show ¬ l.length ≤ 8 by omega)]; simp
    rw [← hn]
    clear h hn
    go_enter Tryz.func31, Tryz.ntmps31
    go_wp2
    go_ret2
    exact ⟨Below.refl _ _, .inl ⟨hq, rfl⟩⟩
  have t1 : decide (8 < n) = false := decide_eq_false h8
  obtain ⟨i0, hi, hz0, hz1, hz2⟩ := info_parts info_acc
  rw [← hn]
  have hM := Lib.hid (fun u W => maybe_any u W)
  obtain ⟨w1, hw1⟩ : ∃ w1, w1 = w.alloc (.cells #[.slice none 0 0] 153) := ⟨_, rfl⟩
  have hb1 : Below w.heap.size w w1 := by rw [hw1]; exact (Below.refl _ _).alloc (Nat.le_refl _) _
  have hp1 : w1.heap[w.heap.size]? = some (.cells #[.slice none 0 0] 153 (0, 0)) := by rw [hw1]; exact heap_alloc_new w _
  have hs1 : w1.heap.size = w.heap.size + 1 := by rw [hw1]; simp
  have H1 := Lib.hid (And.intro hb1 hp1)
  have HW := Lib.hid hw1
  clear h hn hb1 hp1 hw1
  go_enter Tryz.func31, Tryz.ntmps31
  go_wp2_with fail
  rw [← HW.out]
  go_loopw [19] (fun i wr => ∃ k : Nat, i = .int .i64 k ∧ k ≤ n ∧ w.heap.size < wr.heap.size ∧ Hid (Below w.heap.size w wr ∧ ∃ v, wr.heap[w.heap.size]? = some (.cells #[v] 153 (0, 0)) ∧ wr.ownsRow (w.heap.size + 1) 157 4 v k ((newL (l.take k)).flatMap qaC) ∧ (l.take k).all mayU = true)) (fun i _ => n - (intOf i).toNat)
  case atStart => exact ⟨0, rfl, by omega, by omega, Lib.hid ⟨H1.out.1, _, H1.out.2, World.ownsRow_nil _ _ _ _, rfl⟩⟩
  case round =>
    obtain ⟨k, rfl, hk, hsw, hin⟩ := hrel
    obtain ⟨hBl, v, hpb, hown, hall⟩ := hin.out
    by_cases hlt : k < n
    · obtain ⟨⟨ug, uc⟩, hx⟩ := get_lt (l := l) (k := k) (by rw [← H.out.2]; exact hlt)
      obtain ⟨b, off, rfl, hb, hc⟩ := H.out.1.at_ hx
      have hcx := (hc k _ hx).keep hb (hBl.mono hB)
      have z0 : wr.cell? ⟨b, off + k * 2, none⟩ = some (.int .i64 ug) := hcx 0 _ rfl
      have z1 : wr.cell? ⟨b, off + k * 2 + 1, none⟩ = some (.int .i64 uc) := hcx 1 _ rfl
      have hbw : b < wr.heap.size := by omega
      have hMx := hM.out ⟨ug, uc⟩
      obtain ⟨m, hm⟩ : ∃ m, m = mayU ⟨ug, uc⟩ := ⟨_, rfl⟩
      rw [← hm] at hMx
      have HMx := Lib.hid hMx
      have t2 : decide (k < n) = true := decide_eq_true hlt
      obtain ⟨W, hW⟩ : ∃ W, W = wr.alloc (.cells #[.int .i64 ug, .int .i64 uc] 58) := ⟨_, rfl⟩
      have hBW : Below wr.heap.size wr W := by rw [hW]; exact (Below.refl _ _).alloc (Nat.le_refl _) _
      have hNW : W.heap[wr.heap.size]? = some (.cells #[.int .i64 ug, .int .i64 uc] 58 (0, 0)) := by rw [hW]; exact heap_alloc_new wr _
      have y0 : (wr.alloc (.cells #[.int .i64 ug, .int .i64 uc] 58)).cell? ⟨wr.heap.size, 0, none⟩ = some (.int .i64 ug) := by rw [← hW]; exact cell_blk (i := 0) hNW rfl
      have y1 : (wr.alloc (.cells #[.int .i64 ug, .int .i64 uc] 58)).cell? ⟨wr.heap.size, 1, none⟩ = some (.int .i64 uc) := by rw [← hW]; exact cell_blk (i := 1) hNW rfl
      have hWs : W.heap.size = wr.heap.size + 1 := by rw [hW]; simp
      have H2 := Lib.hid (And.intro hW (And.intro hBW (And.intro hNW (And.intro hBl (And.intro hpb (And.intro hown (And.intro hall (And.intro hx hm))))))))
      simp only [unV] at HMx
      clear hcx hc hx hin hMx hm hW hBW hNW hBl hpb hown hall
      cases m
      · go_wp2_with (go_at_call 77; refine (HMx.out _).mono ?_; rintro e w2 ⟨rfl, hb2⟩)
        go_ret2
        obtain ⟨hW, hBW, hNW, hBl, hpb, hown, hall, hx, hm⟩ := H2.out
        refine ⟨?_, .inl ⟨?_, rfl⟩⟩
        · rw [← hW] at hb2
          exact hBl.trans ((below_step hBW hb2).mono (by omega))
        · unfold quotasOk; rw [all_no hx hm.symm]; simp
      · go_wp2_with (go_at_call 77; refine (HMx.out _).mono ?_; rintro e w2 ⟨rfl, hb2⟩; have u0 := (hb2.cell (p := ⟨wr.heap.size, 0, none⟩) (by simp)).trans y0; have u1 := (hb2.cell (p := ⟨wr.heap.size, 1, none⟩) (by simp)).trans y1)
        obtain ⟨hW, hBW, hNW, hBl, hpb, hown, hall, hx, hm⟩ := H2.out
        rw [← hW] at hb2
        have hB2 : Below wr.heap.size wr w2 := below_step hBW hb2
        have hp2 := (hB2.block w.heap.size hsw).trans hpb
        have ho2 := own_keep hown hB2
        obtain ⟨A', cp, rfl⟩ := own_form ho2
        have c2 : w2.cell? ⟨w.heap.size, 0, none⟩ = some (.slice A' k cp) := cell_blk (i := 0) hp2 rfl
        have f2 : w2.frozen? ⟨w.heap.size, 0, none⟩ = false := frozen_blk hp2
        have hon : (Value.slice A' k cp).ownBlock ≠ some w.heap.size := fun e => by have := (ho2.lt _ e).1; omega
        have hos : (Value.slice A' k cp).ownBlock ≠ some wr.heap.size := fun e => by have := (hown.lt _ e).2; omega
        have hs2 : W.heap.size ≤ w2.heap.size := hb2.size
        have hm1 := hm.symm
        have hBw2 := hBl.trans (hB2.mono (by omega))
        have H3 := Lib.hid (And.intro hBw2 (And.intro hp2 (And.intro ho2 (And.intro hall (And.intro hx hm1)))))
        clear hW hBW hNW hBl hpb hown hall hx hm hB2 hp2 ho2 hb2 hm1 hBw2 z0 z1 y0 y1
        refine wp_until (fun w' : World => w'.cell? ⟨w.heap.size, 0, none⟩ = some (.slice A' k cp) ∧ w'.cell? ⟨wr.heap.size, 0, none⟩ = some (.int .i64 ug) ∧ w'.cell? ⟨wr.heap.size, 1, none⟩ = some (.int .i64 uc)) 12 (by kernel_rfl) ?_
        have hS : (fun w' : World => w'.cell? ⟨w.heap.size, 0, none⟩ = some (.slice A' k cp) ∧ w'.cell? ⟨wr.heap.size, 0, none⟩ = some (.int .i64 ug) ∧ w'.cell? ⟨wr.heap.size, 1, none⟩ = some (.int .i64 uc)) w2.drew := ⟨c2, u0, u1⟩
        have f4 : w2.drew.frozen? ⟨w.heap.size, 0, none⟩ = false := f2
        have H4 := Lib.hid (show Below w.heap.size w w2.drew ∧ w2.drew.heap[w.heap.size]? = some (.cells #[.slice A' k cp] 153 (0, 0)) ∧ w2.drew.ownsRow (w.heap.size + 1) 157 4 (.slice A' k cp) k ((newL (l.take k)).flatMap qaC) from ⟨H3.out.1.drew, H3.out.2.1, H3.out.2.2.1.drew⟩)
        have hs4 : W.heap.size ≤ w2.drew.heap.size := hs2
        clear c2 f2 u0 u1 hs2
        generalize w2.drew = w4 at hS f4 H4 hs4 ⊢
        refine until_take (v := ?_) 0 26 rfl rfl (by kernel_rfl) (by kernel_rfl) (by kernel_rfl) (by kernel_rfl) (fun _ _ _ h => h) ⟨by rfl, ?_⟩ hS ?_
        rotate_left
        · intro w' hw'; obtain ⟨x0, x1, x2⟩ := hw'; go_simp; (try with_reducible rfl)
        simp only [Act.put, List.setIfInBounds_toArray, List.set_cons_zero, List.set_cons_succ]
        refine until_take (v := ?_) 1 27 rfl rfl (by kernel_rfl) (by kernel_rfl) (by kernel_rfl) (by kernel_rfl) (fun _ _ _ h => h) ⟨by rfl, ?_⟩ hS ?_
        rotate_left
        · intro w' hw'; obtain ⟨x0, x1, x2⟩ := hw'; go_simp; (try with_reducible rfl)
        simp only [Act.put, List.setIfInBounds_toArray, List.set_cons_zero, List.set_cons_succ]
        refine until_take (v := ?_) 2 28 rfl rfl (by kernel_rfl) (by kernel_rfl) (by kernel_rfl) (by kernel_rfl) (fun _ _ _ h => h) ⟨by rfl, ?_⟩ hS ?_
        rotate_left
        · intro w' hw'; obtain ⟨x0, x1, x2⟩ := hw'; go_simp; (try with_reducible rfl)
        simp only [Act.put, List.setIfInBounds_toArray, List.set_cons_zero, List.set_cons_succ]
        refine until_take (v := ?_) 3 29 rfl rfl (by kernel_rfl) (by kernel_rfl) (by kernel_rfl) (by kernel_rfl) (fun _ _ _ h => h) ⟨by rfl, ?_⟩ hS ?_
        rotate_left
        · intro w' hw'; obtain ⟨x0, x1, x2⟩ := hw'; go_simp; (try with_reducible rfl)
        simp only [Act.put, List.setIfInBounds_toArray, List.set_cons_zero, List.set_cons_succ]
        refine until_take (v := ?_) 4 30 rfl rfl (by kernel_rfl) (by kernel_rfl) (by kernel_rfl) (by kernel_rfl) (fun _ _ _ h => h) ⟨by rfl, ?_⟩ hS ?_
        rotate_left
        · intro w' hw'; obtain ⟨x0, x1, x2⟩ := hw'; go_simp; (try with_reducible rfl)
        simp only [Act.put, List.setIfInBounds_toArray, List.set_cons_zero, List.set_cons_succ]
        refine until_take (v := ?_) 5 31 rfl rfl (by kernel_rfl) (by kernel_rfl) (by kernel_rfl) (by kernel_rfl) (fun _ _ _ h => h) ⟨by rfl, ?_⟩ hS ?_
        rotate_left
        · intro w' hw'; obtain ⟨x0, x1, x2⟩ := hw'; go_simp; (try with_reducible rfl)
        simp only [Act.put, List.setIfInBounds_toArray, List.set_cons_zero, List.set_cons_succ]
        refine until_take (v := ?_) 6 32 rfl rfl (by kernel_rfl) (by kernel_rfl) (by kernel_rfl) (by kernel_rfl) (fun _ _ _ h => h) ⟨by rfl, ?_⟩ hS ?_
        rotate_left
        · intro w' hw'; obtain ⟨x0, x1, x2⟩ := hw'; go_simp; (try with_reducible rfl)
        simp only [Act.put, List.setIfInBounds_toArray, List.set_cons_zero, List.set_cons_succ]
        refine until_take (v := ?_) 7 33 rfl rfl (by kernel_rfl) (by kernel_rfl) (by kernel_rfl) (by kernel_rfl) (fun _ _ _ h => h) ⟨by rfl, ?_⟩ hS ?_
        rotate_left
        · intro w' hw'; obtain ⟨x0, x1, x2⟩ := hw'; go_simp; (try with_reducible rfl)
        simp only [Act.put, List.setIfInBounds_toArray, List.set_cons_zero, List.set_cons_succ]
        refine until_one 8 rfl (by kernel_rfl) rfl (fun K hK => ?_)
        go_simp
        have hst := (Below.refl w4.heap.size w4).alloc (Nat.le_refl _) (.cells #[.int .i64 ug, .int .i64 uc, .int .i64 0, .int .i64 0] 157)
        have hS4 : (fun w' : World => w'.cell? ⟨w.heap.size, 0, none⟩ = some (.slice A' k cp) ∧ w'.cell? ⟨wr.heap.size, 0, none⟩ = some (.int .i64 ug) ∧ w'.cell? ⟨wr.heap.size, 1, none⟩ = some (.int .i64 uc)) (w4.alloc (.cells #[.int .i64 ug, .int .i64 uc, .int .i64 0, .int .i64 0] 157)) :=
          ⟨(hst.cell (p := ⟨w.heap.size, 0, none⟩) (show w.heap.size < _ by omega)).trans hS.1, (hst.cell (p := ⟨wr.heap.size, 0, none⟩) (show wr.heap.size < _ by omega)).trans hS.2.1, (hst.cell (p := ⟨wr.heap.size, 1, none⟩) (show wr.heap.size < _ by omega)).trans hS.2.2⟩
        refine hK.out _ _ (fun _ => hS4) ?_
        clear hK K
        refine until_one 9 rfl (by kernel_rfl) rfl (fun K hK => ?_)
        simp only [Go.wp_at_zero, Go.wp_at_succ]
        refine wp_append_lies _ _ _ 151 rfl (w.heap.size + 1) 157 i0 _ 4 32 Tryz.underlying151 hi hz0 hz1 hz2 rfl (by omega) (.slice A' k cp) k ((newL (l.take k)).flatMap qaC) rfl (H4.out.2.2.alloc _) ⟨w4.heap.size, 0, none⟩ 1 1 [.int .i64 ug, .int .i64 uc, .int .i64 0, .int .i64 0] rfl rfl (World.news_of_block (cs := #[.int .i64 ug, .int .i64 uc, .int .i64 0, .int .i64 0]) (t := 157) (fr := (0, 0)) (heap_alloc_new w4 _)) (by simp [Value.oneCell']) (by omega) (by unfold maxLen; omega) (by omega) (by simp; omega) (w4.heap.size + 1) (by simp) ?_
        intro gg cap' w5 hown5 hgrow hat hlt5
        have hS5 : (fun w' : World => w'.cell? ⟨w.heap.size, 0, none⟩ = some (.slice A' k cp) ∧ w'.cell? ⟨wr.heap.size, 0, none⟩ = some (.int .i64 ug) ∧ w'.cell? ⟨wr.heap.size, 1, none⟩ = some (.int .i64 uc)) w5 :=
          ⟨(hgrow.cell_far _ (by simp; omega) (Ne.symm hon)).trans hS4.1, (hgrow.cell_far _ (by simp; omega) (Ne.symm hos)).trans hS4.2.1, (hgrow.cell_far _ (by simp; omega) (Ne.symm hos)).trans hS4.2.2⟩
        have g4 := hS5.1
        have g5 : w5.frozen? ⟨w.heap.size, 0, none⟩ = false := (hgrow.frozen_far ⟨w.heap.size, 0, none⟩ (by simp; omega) (Ne.symm hon)).trans ((hst.frozen (p := ⟨w.heap.size, 0, none⟩) (show w.heap.size < _ by omega)).trans f4)
        refine hK.out _ _ (fun _ => hS5) ?_
        clear hK K
        simp only [Act.put, List.setIfInBounds_toArray, List.set_cons_zero, List.set_cons_succ]
        refine until_one 10 rfl (by kernel_rfl) rfl (fun K hK => ?_)
        go_simp
        refine hK.out _ _ (fun _ => hS5) ?_
        clear hK K
        refine until_one 11 rfl (by kernel_rfl) rfl (fun K hK => ?_)
        go_simp
        refine hK.out _ _ (fun _ => hS5) ?_
        clear hK K
        refine until_one 12 rfl (by kernel_rfl) rfl (fun K hK => ?_)
        go_simp
        refine hK.out _ _ (fun h => absurd h (by decide)) ?_
        clear hK K
        refine until_done (by kernel_rfl) ?_
        go_wp2
        go_roundw
        case rel =>
          obtain ⟨hBw2, hp2, ho2, hall, hx, hm1⟩ := H3.out
          have hgg := (hown5.lt gg rfl).1
          have hpb5 : w5.heap[w.heap.size]? = some (.cells #[.slice A' k cp] 153 (0, 0)) := (hgrow.block _ (by simp; omega) (Ne.symm hon)).trans ((Below.heap_alloc w4 _ _ (by omega)).trans H4.out.2.1)
          have hB5 : Below w.heap.size w w5 := (H4.out.1.alloc (by omega) _).grown hgrow (by simp; omega) (fun i e => by have := (ho2.lt i e).1; omega)
          have hs5 := hB5.size
          have hl5 := blk_lt hpb5
          refine ⟨k + 1, by go_num, by omega, by simp; omega, Lib.hid ⟨hB5.setCell (p := ⟨w.heap.size, 0, none⟩) (Nat.le_refl _) _, .slice (some ⟨gg, 0, none⟩) (k + 1) cap', ?_, ?_, all_next hx hall hm1⟩⟩
          · have := blk_put (.slice (some ⟨gg, 0, none⟩) (k + 1) cap') (i := 0) hpb5
            simpa using this
          · have e : (newL (l.take (k + 1))).flatMap qaC = (newL (l.take k)).flatMap qaC ++ [.int .i64 ug, .int .i64 uc, .int .i64 0, .int .i64 0] := by
              unfold newL; rw [take_next hx, List.map_append, List.flatMap_append]; simp [newA, qaC]
            rw [e]
            refine own_stays hown5 fun i hi => ?_
            have := (hown5.lt i hi).1
            exact Below.heap_setCell w5 ⟨w.heap.size, 0, none⟩ _ i (show i ≠ w.heap.size by omega)
        case measure => simp [intOf]; omega
    · obtain rfl : k = n := by omega
      have HZ := Lib.hid (And.intro hBl (And.intro hpb (And.intro hown hall)))
      clear hBl hpb hown hall hlt hin
      go_wp2
      go_ret2
      obtain ⟨hBl, hpb, hown, hall⟩ := HZ.out
      have e : l.take k = l := by rw [H.out.2]; exact List.take_length
      rw [e] at hown hall
      have hq : quotasOk l = true := quotasOk_iff.2 ⟨by rw [← H.out.2]; omega, by rw [← H.out.2]; omega, hall⟩
      obtain ⟨g, c, hQ, hg⟩ := QAt.made hq H.out.2.symm hpb hown
      exact ⟨hBl, .inr ⟨hq, w.heap.size, g, c, rfl, hQ, Nat.le_refl _, by omega⟩⟩
end Go.Proofs.YtkhbbfpajiimaaaGreat
