/- The three closures by which two waits are held against each other, and the one that asks them one behind the other. -/
import Derived.RegionTactic
import Derived.BigRegion
import Derived.Deep.QuietTactic
import Derived.BigQuiet
import Derived.Deep.RegionWith
import Derived.Laws.EntriesVeiled
import Derived.Test.YtdeniikaddlifaaOrdRank
namespace Go.Proofs.Ytdeniikaddlifaa
open Go.RowKit
set_option maxRecDepth 100000 in
set_option maxHeartbeats 2000000 in
theorem ranks_cl (T G : Nat) (x y : Wt) (tick age : Int) (w : World) (h1 : 0 ≤ tick) (h2 : tick ≤ 2147483648) (h3 : 1 ≤ age) (h4 : age ≤ 1024) (hx : mayW x = true) (hy : mayW y = true)
    (hT : w.cell? ⟨T, 0, none⟩ = some (.int .i64 tick)) (hG : w.cell? ⟨G, 0, none⟩ = some (.int .i64 age)) :
    Calls Try.prog 47 #[wtV x, wtV y, .pointer (some ⟨T, 0, none⟩), .pointer (some ⟨G, 0, none⟩)] w fun e w' => e = .returned (.int .i64 (cmpI (rankF y tick age) (rankF x tick age))) ∧ Below w.heap.size w w' := by
  have lT0 := lt_of_cell hT
  have lG0 := lt_of_cell hG
  have hX := Lib.hid (fun W => rank_any x tick age W h1 h2 h3 h4 hx)
  have hY := Lib.hid (fun W => rank_any y tick age W h1 h2 h3 h4 hy)
  have hb0 := wt_new w x
  have hb1 := wt_new (w.alloc (wtO x)) y
  rw [show (w.alloc (wtO x)).heap.size = w.heap.size + 1 by simp] at hb1
  have hU0 := ((Below.refl w.heap.size w).alloc (Nat.le_refl _) (wtO x)).alloc (by simp) (wtO y)
  have hA0 := (wtAt_new hb0).keep (B := (w.alloc (wtO x)).heap.size) (by simp) ((Below.refl _ (w.alloc (wtO x))).alloc (Nat.le_refl _) (wtO y))
  have hB0 := wtAt_new hb1
  have cT0 := (hU0.cell (p := ⟨T, 0, none⟩) lT0).trans hT
  have cG0 := (hU0.cell (p := ⟨G, 0, none⟩) lG0).trans hG
  have sU0 : ((w.alloc (wtO x)).alloc (wtO y)).heap.size = w.heap.size + 1 + 1 := by simp
  have HF := Lib.hid (And.intro hU0 (And.intro hA0 (And.intro hB0 (And.intro cT0 (And.intro cG0 (And.intro sU0 (And.intro lT0 lG0)))))))
  clear hb0 hb1 hU0 hA0 hB0 cT0 cG0 sU0 lT0 lG0 hT hG hx hy
  simp only [wtV] at hX hY ⊢
  go_enter Try.func47, Try.ntmps47
  go_wp2_with fail
  obtain ⟨hU, hA, hB, cT, cG, sU, lT1, lG1⟩ := HF.out
  clear HF
  obtain ⟨U, hUe⟩ : ∃ U, U = (w.alloc (wtO x)).alloc (wtO y) := ⟨_, rfl⟩
  obtain ⟨B, hBe⟩ : ∃ B, B = w.heap.size + 1 := ⟨_, rfl⟩
  obtain ⟨A, hAe⟩ : ∃ A, A = w.heap.size := ⟨_, rfl⟩
  rw [← hUe, ← hBe, ← hAe]
  rw [← hUe] at hU hA hB cT cG sU
  rw [← hBe] at hB
  rw [← hAe] at hA
  have lA : A < U.heap.size := by omega
  have lB : B < U.heap.size := by omega
  have lT : T < U.heap.size := by omega
  have lG : G < U.heap.size := by omega
  clear hUe hBe hAe sU lT1 lG1
  refine held_begin (fun w' : World => WtAt w' A 0 x ∧ WtAt w' B 0 y ∧ w'.cell? ⟨T, 0, none⟩ = some (.int .i64 tick) ∧ w'.cell? ⟨G, 0, none⟩ = some (.int .i64 age)) (by kernel_rfl) ?_
  have hBh0 : Below U.heap.size U U.drew := (Below.refl _ _).drew
  have hSh0 : (fun w' : World => WtAt w' A 0 x ∧ WtAt w' B 0 y ∧ w'.cell? ⟨T, 0, none⟩ = some (.int .i64 tick) ∧ w'.cell? ⟨G, 0, none⟩ = some (.int .i64 age)) U.drew := ⟨hA, hB, cT, cG⟩
  refine held_take (v := ?_) 0 7 rfl rfl (by kernel_rfl) (by kernel_rfl) (by kernel_rfl) (fun _ _ _ h => h) ⟨by rfl, ?_⟩ hSh0 ?_
  rotate_left
  · intro w' hw'; obtain ⟨x0, x1, x2, x3⟩ := hw'; refine Eq.trans (run_load_wt (by rfl) (by rfl) x1) ?_; (with_reducible rfl)
  simp only [Act.put, List.setIfInBounds_toArray, List.set_cons_zero, List.set_cons_succ]
  refine held_take (v := ?_) 1 8 rfl rfl (by kernel_rfl) (by kernel_rfl) (by kernel_rfl) (fun _ _ _ h => h) ⟨by rfl, ?_⟩ hSh0 ?_
  rotate_left
  · intro w' hw'; obtain ⟨x0, x1, x2, x3⟩ := hw'; go_simp; (try with_reducible rfl)
  simp only [Act.put, List.setIfInBounds_toArray, List.set_cons_zero, List.set_cons_succ]
  refine held_take (v := ?_) 2 9 rfl rfl (by kernel_rfl) (by kernel_rfl) (by kernel_rfl) (fun _ _ _ h => h) ⟨by rfl, ?_⟩ hSh0 ?_
  rotate_left
  · intro w' hw'; obtain ⟨x0, x1, x2, x3⟩ := hw'; go_simp; (try with_reducible rfl)
  simp only [Act.put, List.setIfInBounds_toArray, List.set_cons_zero, List.set_cons_succ]
  refine held_take (v := ?_) 4 11 rfl rfl (by kernel_rfl) (by kernel_rfl) (by kernel_rfl) (fun _ _ _ h => h) ⟨by rfl, ?_⟩ hSh0 ?_
  rotate_left
  · intro w' hw'; obtain ⟨x0, x1, x2, x3⟩ := hw'; refine Eq.trans (run_load_wt (by rfl) (by rfl) x0) ?_; (with_reducible rfl)
  simp only [Act.put, List.setIfInBounds_toArray, List.set_cons_zero, List.set_cons_succ]
  refine held_take (v := ?_) 5 12 rfl rfl (by kernel_rfl) (by kernel_rfl) (by kernel_rfl) (fun _ _ _ h => h) ⟨by rfl, ?_⟩ hSh0 ?_
  rotate_left
  · intro w' hw'; obtain ⟨x0, x1, x2, x3⟩ := hw'; go_simp; (try with_reducible rfl)
  simp only [Act.put, List.setIfInBounds_toArray, List.set_cons_zero, List.set_cons_succ]
  refine held_take (v := ?_) 6 13 rfl rfl (by kernel_rfl) (by kernel_rfl) (by kernel_rfl) (fun _ _ _ h => h) ⟨by rfl, ?_⟩ hSh0 ?_
  rotate_left
  · intro w' hw'; obtain ⟨x0, x1, x2, x3⟩ := hw'; go_simp; (try with_reducible rfl)
  simp only [Act.put, List.setIfInBounds_toArray, List.set_cons_zero, List.set_cons_succ]
  refine held_one 3 rfl (by kernel_rfl) (by rfl) (fun K hK => ?_)
  go_simp
  go_at_call 49
  refine (hY.out U.drew).mono ?_
  rintro e wh1 ⟨rfl, hbh1⟩
  have hBh1 : Below U.heap.size U wh1 := below_step hBh0 hbh1
  have hSh1 : (fun w' : World => WtAt w' A 0 x ∧ WtAt w' B 0 y ∧ w'.cell? ⟨T, 0, none⟩ = some (.int .i64 tick) ∧ w'.cell? ⟨G, 0, none⟩ = some (.int .i64 age)) wh1 := ⟨hA.keep (lA) hBh1, hB.keep (lB) hBh1, (hBh1.cell (p := ⟨T, 0, none⟩) (lT)).trans cT, (hBh1.cell (p := ⟨G, 0, none⟩) (lG)).trans cG⟩
  refine hK.out _ _ hSh1 ?_
  clear hK K
  refine held_one 7 rfl (by kernel_rfl) (by rfl) (fun K hK => ?_)
  go_simp
  go_at_call 49
  refine (hX.out wh1).mono ?_
  rintro e wh2 ⟨rfl, hbh2⟩
  have hBh2 : Below U.heap.size U wh2 := below_step hBh1 hbh2
  have hSh2 : (fun w' : World => WtAt w' A 0 x ∧ WtAt w' B 0 y ∧ w'.cell? ⟨T, 0, none⟩ = some (.int .i64 tick) ∧ w'.cell? ⟨G, 0, none⟩ = some (.int .i64 age)) wh2 := ⟨hA.keep (lA) hBh2, hB.keep (lB) hBh2, (hBh2.cell (p := ⟨T, 0, none⟩) (lT)).trans cT, (hBh2.cell (p := ⟨G, 0, none⟩) (lG)).trans cG⟩
  refine hK.out _ _ hSh2 ?_
  clear hK K
  refine held_one 8 rfl (by kernel_rfl) (by rfl) (fun K hK => ?_)
  go_simp
  go_at_call 48
  refine (compare_any _ _ _).mono ?_
  rintro e w' ⟨rfl, rfl⟩
  refine hK.out _ _ hSh2 ?_
  clear hK K
  refine held_take (v := ?_) 9 6 rfl rfl (by kernel_rfl) (by kernel_rfl) (by kernel_rfl) (fun _ _ _ h => h) ⟨by rfl, ?_⟩ hSh2 ?_
  rotate_left
  · intro w' hw'; obtain ⟨x0, x1, x2, x3⟩ := hw'; go_simp; (try with_reducible rfl)
  simp only [Act.put, List.setIfInBounds_toArray, List.set_cons_zero, List.set_cons_succ]
  refine wpAnyH_done (by kernel_rfl) ?_ _
  go_wp2
  go_ret
  exact ⟨rfl, below_step hU hBh2⟩
set_option maxRecDepth 100000 in
set_option maxHeartbeats 2000000 in
theorem numbers_cl (x y : Wt) (w : World) : Calls Try.prog 50 #[wtV x, wtV y] w fun e w' => e = .returned (.int .i64 (cmpI x.n y.n)) ∧ Below w.heap.size w w' := by
  have hb0 := wt_new w x
  have hb1 := wt_new (w.alloc (wtO x)) y
  have hU := ((Below.refl w.heap.size w).alloc (Nat.le_refl _) (wtO x)).alloc (by simp) (wtO y)
  have hA := (wtAt_new hb0).keep (B := (w.alloc (wtO x)).heap.size) (by simp) ((Below.refl _ (w.alloc (wtO x))).alloc (Nat.le_refl _) (wtO y))
  rw [show (w.alloc (wtO x)).heap.size = w.heap.size + 1 by simp] at hb1
  have hB := wtAt_new hb1
  have a0 : ((w.alloc (wtO x)).alloc (wtO y)).cell? ⟨w.heap.size, 9, none⟩ = some (.int .i64 x.n) := hA 9 _ rfl
  have b0 : ((w.alloc (wtO x)).alloc (wtO y)).cell? ⟨w.heap.size + 1, 9, none⟩ = some (.int .i64 y.n) := hB 9 _ rfl
  have HU := Lib.hid hU
  clear hb0 hb1 hU hA hB
  simp only [wtV]
  go_enter Try.func50, Try.ntmps50
  go_wp2_with (go_at_call 48; refine (compare_any _ _ _).mono ?_; rintro e w' ⟨rfl, rfl⟩)
  go_ret
  exact ⟨rfl, HU.out⟩
set_option maxRecDepth 100000 in
set_option maxHeartbeats 2000000 in
theorem ids_cl (x y : Wt) (w : World) : Calls Try.prog 51 #[wtV x, wtV y] w fun e w' => e = .returned (.int .i64 (cmpI x.id y.id)) ∧ Below w.heap.size w w' := by
  have hb0 := wt_new w x
  have hb1 := wt_new (w.alloc (wtO x)) y
  have hU := ((Below.refl w.heap.size w).alloc (Nat.le_refl _) (wtO x)).alloc (by simp) (wtO y)
  have hA := (wtAt_new hb0).keep (B := (w.alloc (wtO x)).heap.size) (by simp) ((Below.refl _ (w.alloc (wtO x))).alloc (Nat.le_refl _) (wtO y))
  rw [show (w.alloc (wtO x)).heap.size = w.heap.size + 1 by simp] at hb1
  have hB := wtAt_new hb1
  have a0 : ((w.alloc (wtO x)).alloc (wtO y)).cell? ⟨w.heap.size, 0, none⟩ = some (.int .i64 x.id) := hA 0 _ rfl
  have b0 : ((w.alloc (wtO x)).alloc (wtO y)).cell? ⟨w.heap.size + 1, 0, none⟩ = some (.int .i64 y.id) := hB 0 _ rfl
  have HU := Lib.hid hU
  clear hb0 hb1 hU hA hB
  simp only [wtV]
  go_enter Try.func51, Try.ntmps51
  go_wp2_with (go_at_call 48; refine (compare_any _ _ _).mono ?_; rintro e w' ⟨rfl, rfl⟩)
  go_ret
  exact ⟨rfl, HU.out⟩
/-- The three steps, as they lie in memory. -/
structure Cmps (w : World) (S T G : Nat) (tick age : Int) : Prop where
  s0 : w.cell? ⟨S, 0, none⟩ = some (.func (.func 47) #[] #[.pointer (some ⟨T, 0, none⟩), .pointer (some ⟨G, 0, none⟩)])
  s1 : w.cell? ⟨S, 1, none⟩ = some (.func (.func 50) #[] #[])
  s2 : w.cell? ⟨S, 2, none⟩ = some (.func (.func 51) #[] #[])
  t : w.cell? ⟨T, 0, none⟩ = some (.int .i64 tick)
  g : w.cell? ⟨G, 0, none⟩ = some (.int .i64 age)
theorem Cmps.lt {w : World} {S T G : Nat} {tick age : Int} (h : Cmps w S T G tick age) : S < w.heap.size ∧ T < w.heap.size ∧ G < w.heap.size := ⟨lt_of_cell h.s0, lt_of_cell h.t, lt_of_cell h.g⟩
theorem Cmps.of {w w' : World} {S T G : Nat} {tick age : Int} (h : Cmps w S T G tick age) (hk : ∀ k, k = S ∨ k = T ∨ k = G → w'.heap[k]? = w.heap[k]?) : Cmps w' S T G tick age :=
  ⟨(World.cell?_of_block (hk S (.inl rfl))).trans h.s0, (World.cell?_of_block (hk S (.inl rfl))).trans h.s1, (World.cell?_of_block (hk S (.inl rfl))).trans h.s2, (World.cell?_of_block (hk T (.inr (.inl rfl)))).trans h.t, (World.cell?_of_block (hk G (.inr (.inr rfl)))).trans h.g⟩
theorem Cmps.keep {w w' : World} {S T G B : Nat} {tick age : Int} (h : Cmps w S T G tick age) (hB : S < B ∧ T < B ∧ G < B) (hk : Below B w w') : Cmps w' S T G tick age :=
  h.of fun k hh => hk.block k (by rcases hh with rfl | rfl | rfl <;> omega)
theorem step_at0 (x0 x1 x2 : Value) (W : World) : (Instr.index 84 (.agg #[x0, x1, x2]) (.int .i64 0)).run Try.prog W = .ok x0 W := by kernel_rfl
theorem step_at1 (x0 x1 x2 : Value) (W : World) : (Instr.index 84 (.agg #[x0, x1, x2]) (.int .i64 1)).run Try.prog W = .ok x1 W := by kernel_rfl
theorem step_at2 (x0 x1 x2 : Value) (W : World) : (Instr.index 84 (.agg #[x0, x1, x2]) (.int .i64 2)).run Try.prog W = .ok x2 W := by kernel_rfl
/-- How far the steps have been asked without an answer. -/
def Asked3 (tick age : Int) (x y : Wt) (k : Int) : Prop := (0 < k → cmpI (rankF y tick age) (rankF x tick age) = 0) ∧ (1 < k → cmpI x.n y.n = 0) ∧ (2 < k → cmpI x.id y.id = 0)
set_option maxRecDepth 100000 in
set_option maxHeartbeats 4000000 in
theorem steps_cl (S T G : Nat) (x y : Wt) (tick age : Int) (w : World) (h1 : 0 ≤ tick) (h2 : tick ≤ 2147483648) (h3 : 1 ≤ age) (h4 : age ≤ 1024) (hx : mayW x = true) (hy : mayW y = true) (hS : Cmps w S T G tick age) :
    Calls Try.prog 52 #[wtV x, wtV y, .pointer (some ⟨S, 0, none⟩)] w fun e w' => e = .returned (.int .i64 (cmpW tick age x y)) ∧ Below w.heap.size w w' := by
  obtain ⟨lS0, lT0, lG0⟩ := hS.lt
  have HC1 := Lib.hid (fun W cT cG => ranks_cl T G x y tick age W h1 h2 h3 h4 hx hy cT cG)
  have HC2 := Lib.hid (fun W => numbers_cl x y W)
  have HC3 := Lib.hid (fun W => ids_cl x y W)
  have hb0 := wt_new w x
  have hb1 := wt_new (w.alloc (wtO x)) y
  rw [show (w.alloc (wtO x)).heap.size = w.heap.size + 1 by simp] at hb1
  have hU0 := ((Below.refl w.heap.size w).alloc (Nat.le_refl _) (wtO x)).alloc (by simp) (wtO y)
  have hA0 := (wtAt_new hb0).keep (B := (w.alloc (wtO x)).heap.size) (by simp) ((Below.refl _ (w.alloc (wtO x))).alloc (Nat.le_refl _) (wtO y))
  have hB0 := wtAt_new hb1
  have hS0 := hS.keep ⟨lS0, lT0, lG0⟩ hU0
  have sU0 : ((w.alloc (wtO x)).alloc (wtO y)).heap.size = w.heap.size + 1 + 1 := by simp
  obtain ⟨c0, c1, c2, c3, c4⟩ := hS0
  have HF := Lib.hid (And.intro hU0 (And.intro hA0 (And.intro hB0 (And.intro (Cmps.mk c0 c1 c2 c3 c4) (And.intro sU0 (And.intro lS0 (And.intro lT0 lG0)))))))
  clear hb0 hb1 hU0 hA0 hB0 sU0 hS hx hy lS0 lT0 lG0 c3 c4
  simp only [wtV]
  go_enter Try.func52, Try.ntmps52
  go_wp2_with fail
  obtain ⟨hU, hA, hBy, hS, sU, lS1, lT1, lG1⟩ := HF.out
  clear HF c0 c1 c2
  obtain ⟨U, hUe⟩ : ∃ U, U = (w.alloc (wtO x)).alloc (wtO y) := ⟨_, rfl⟩
  obtain ⟨B, hBe⟩ : ∃ B, B = w.heap.size + 1 := ⟨_, rfl⟩
  obtain ⟨A, hAe⟩ : ∃ A, A = w.heap.size := ⟨_, rfl⟩
  rw [← hUe, ← hBe, ← hAe]
  rw [← hUe] at hU hA hBy hS sU
  rw [← hBe] at hBy
  rw [← hAe] at hA
  have lA : A < U.heap.size := by omega
  have lB : B < U.heap.size := by omega
  have lS : S < U.heap.size ∧ T < U.heap.size ∧ G < U.heap.size := by omega
  have HU := Lib.hid hU
  have HA := Lib.hid hA
  have HBy := Lib.hid hBy
  have HS := Lib.hid hS
  clear hUe hBe hAe sU lS1 lT1 lG1 hU hA hBy hS
  have HB0 := Lib.hid (Below.refl U.heap.size U)
  go_loopw [10] (fun i wr => ∃ k : Int, i = .int .i64 k ∧ 0 ≤ k ∧ k ≤ 3 ∧ Hid (Below U.heap.size U wr) ∧ Hid (Asked3 tick age x y k)) (fun i _ => 3 - (intOf i).toNat)
  case atStart => exact ⟨0, rfl, by omega, by omega, HB0, Lib.hid ⟨fun h => by omega, fun h => by omega, fun h => by omega⟩⟩
  case round =>
    clear HB0
    obtain ⟨k, rfl, hk0, hk, hB, hI⟩ := hrel
    rcases (show k = 0 ∨ k = 1 ∨ k = 2 ∨ k = 3 by omega) with rfl | rfl | rfl | rfl
    · have t0 : decide ((0 : Int) < 3) = true := by decide
      have hix := step_at0 (.func (.func 47) #[] #[.pointer (some ⟨T, 0, none⟩), .pointer (some ⟨G, 0, none⟩)]) (.func (.func 50) #[] #[]) (.func (.func 51) #[] #[])
      have hA := HA.out.keep lA hB.out
      have hBy := HBy.out.keep lB hB.out
      have hS := HS.out.keep lS hB.out
      have a0 : wr.cell? ⟨A, 0, none⟩ = some (.int .i64 x.id) := hA 0 _ rfl
      have a1 : wr.cell? ⟨A, 1, none⟩ = some (.int .i64 x.q) := hA 1 _ rfl
      have a2 : wr.cell? ⟨A, 2, none⟩ = some (.int .i64 x.p) := hA 2 _ rfl
      have a3 : wr.cell? ⟨A, 3, none⟩ = some (.int .i64 x.r) := hA 3 _ rfl
      have a4 : wr.cell? ⟨A, 4, none⟩ = some (.int .i64 x.g) := hA 4 _ rfl
      have a5 : wr.cell? ⟨A, 5, none⟩ = some (.int .i64 x.c) := hA 5 _ rfl
      have a6 : wr.cell? ⟨A, 6, none⟩ = some (.int .i64 x.mn) := hA 6 _ rfl
      have a7 : wr.cell? ⟨A, 7, none⟩ = some (.int .i64 x.mx) := hA 7 _ rfl
      have a8 : wr.cell? ⟨A, 8, none⟩ = some (.int .i64 x.s) := hA 8 _ rfl
      have a9 : wr.cell? ⟨A, 9, none⟩ = some (.int .i64 x.n) := hA 9 _ rfl
      have b0 : wr.cell? ⟨B, 0, none⟩ = some (.int .i64 y.id) := hBy 0 _ rfl
      have b1 : wr.cell? ⟨B, 1, none⟩ = some (.int .i64 y.q) := hBy 1 _ rfl
      have b2 : wr.cell? ⟨B, 2, none⟩ = some (.int .i64 y.p) := hBy 2 _ rfl
      have b3 : wr.cell? ⟨B, 3, none⟩ = some (.int .i64 y.r) := hBy 3 _ rfl
      have b4 : wr.cell? ⟨B, 4, none⟩ = some (.int .i64 y.g) := hBy 4 _ rfl
      have b5 : wr.cell? ⟨B, 5, none⟩ = some (.int .i64 y.c) := hBy 5 _ rfl
      have b6 : wr.cell? ⟨B, 6, none⟩ = some (.int .i64 y.mn) := hBy 6 _ rfl
      have b7 : wr.cell? ⟨B, 7, none⟩ = some (.int .i64 y.mx) := hBy 7 _ rfl
      have b8 : wr.cell? ⟨B, 8, none⟩ = some (.int .i64 y.s) := hBy 8 _ rfl
      have b9 : wr.cell? ⟨B, 9, none⟩ = some (.int .i64 y.n) := hBy 9 _ rfl
      have hC := Lib.hid (HC1.out wr hS.t hS.g)
      obtain ⟨c, hc⟩ : ∃ c, c = cmpI (rankF y tick age) (rankF x tick age) := ⟨_, rfl⟩
      rw [← hc] at hC
      have hcs : -1 ≤ c ∧ c ≤ 1 := by rw [hc]; exact cmpI_small _ _
      simp only [wtV, wtA] at hC
      by_cases hz : c = 0
      · subst hz
        have HP : Hid (Asked3 tick age x y 1) := Lib.hid (⟨fun _ => hc.symm, fun h => by omega, fun h => by omega⟩)
        clear hI hA hBy hS hc hcs
        have HB0 := hB
        clear hB
        go_wp2_with (go_at_call 47; refine (hC.out).mono ?_; rintro e w1 ⟨rfl, hb1⟩)
        have HB1 := Lib.hid (below_step HB0.out hb1)
        clear HB0 hb1 hC hix
        go_roundw
        case rel => exact ⟨1, rfl, by omega, by omega, HB1, HP⟩
        case measure => simp [intOf]
      · have t1 : (c != 0) = true := by simpa using hz
        have HR : Hid (cmpW tick age x y = c) := Lib.hid (by unfold cmpW; rw [← hc, if_pos hz])
        clear hI hA hBy hS hc
        have HB0 := hB
        clear hB
        go_wp2_with (go_at_call 47; refine (hC.out).mono ?_; rintro e w1 ⟨rfl, hb1⟩)
        have HB1 := Lib.hid (below_step HB0.out hb1)
        clear HB0 hb1 hC hix
        go_ret
        exact ⟨by rw [HR.out]; rfl, below_step HU.out HB1.out⟩
    · have t0 : decide ((1 : Int) < 3) = true := by decide
      have hix := step_at1 (.func (.func 47) #[] #[.pointer (some ⟨T, 0, none⟩), .pointer (some ⟨G, 0, none⟩)]) (.func (.func 50) #[] #[]) (.func (.func 51) #[] #[])
      have hA := HA.out.keep lA hB.out
      have hBy := HBy.out.keep lB hB.out
      have hS := HS.out.keep lS hB.out
      have a0 : wr.cell? ⟨A, 0, none⟩ = some (.int .i64 x.id) := hA 0 _ rfl
      have a1 : wr.cell? ⟨A, 1, none⟩ = some (.int .i64 x.q) := hA 1 _ rfl
      have a2 : wr.cell? ⟨A, 2, none⟩ = some (.int .i64 x.p) := hA 2 _ rfl
      have a3 : wr.cell? ⟨A, 3, none⟩ = some (.int .i64 x.r) := hA 3 _ rfl
      have a4 : wr.cell? ⟨A, 4, none⟩ = some (.int .i64 x.g) := hA 4 _ rfl
      have a5 : wr.cell? ⟨A, 5, none⟩ = some (.int .i64 x.c) := hA 5 _ rfl
      have a6 : wr.cell? ⟨A, 6, none⟩ = some (.int .i64 x.mn) := hA 6 _ rfl
      have a7 : wr.cell? ⟨A, 7, none⟩ = some (.int .i64 x.mx) := hA 7 _ rfl
      have a8 : wr.cell? ⟨A, 8, none⟩ = some (.int .i64 x.s) := hA 8 _ rfl
      have a9 : wr.cell? ⟨A, 9, none⟩ = some (.int .i64 x.n) := hA 9 _ rfl
      have b0 : wr.cell? ⟨B, 0, none⟩ = some (.int .i64 y.id) := hBy 0 _ rfl
      have b1 : wr.cell? ⟨B, 1, none⟩ = some (.int .i64 y.q) := hBy 1 _ rfl
      have b2 : wr.cell? ⟨B, 2, none⟩ = some (.int .i64 y.p) := hBy 2 _ rfl
      have b3 : wr.cell? ⟨B, 3, none⟩ = some (.int .i64 y.r) := hBy 3 _ rfl
      have b4 : wr.cell? ⟨B, 4, none⟩ = some (.int .i64 y.g) := hBy 4 _ rfl
      have b5 : wr.cell? ⟨B, 5, none⟩ = some (.int .i64 y.c) := hBy 5 _ rfl
      have b6 : wr.cell? ⟨B, 6, none⟩ = some (.int .i64 y.mn) := hBy 6 _ rfl
      have b7 : wr.cell? ⟨B, 7, none⟩ = some (.int .i64 y.mx) := hBy 7 _ rfl
      have b8 : wr.cell? ⟨B, 8, none⟩ = some (.int .i64 y.s) := hBy 8 _ rfl
      have b9 : wr.cell? ⟨B, 9, none⟩ = some (.int .i64 y.n) := hBy 9 _ rfl
      have hC := Lib.hid (HC2.out wr)
      obtain ⟨c, hc⟩ : ∃ c, c = cmpI x.n y.n := ⟨_, rfl⟩
      rw [← hc] at hC
      have hcs : -1 ≤ c ∧ c ≤ 1 := by rw [hc]; exact cmpI_small _ _
      simp only [wtV, wtA] at hC
      by_cases hz : c = 0
      · subst hz
        have HP : Hid (Asked3 tick age x y 2) := Lib.hid (⟨fun _ => hI.out.1 (by omega), fun _ => hc.symm, fun h => by omega⟩)
        clear hI hA hBy hS hc hcs
        have HB0 := hB
        clear hB
        go_wp2_with (go_at_call 50; refine (hC.out).mono ?_; rintro e w1 ⟨rfl, hb1⟩)
        have HB1 := Lib.hid (below_step HB0.out hb1)
        clear HB0 hb1 hC hix
        go_roundw
        case rel => exact ⟨2, rfl, by omega, by omega, HB1, HP⟩
        case measure => simp [intOf]
      · have t1 : (c != 0) = true := by simpa using hz
        have HR : Hid (cmpW tick age x y = c) := Lib.hid (by unfold cmpW; rw [hI.out.1 (by omega), ← hc, if_neg (by simp), if_pos hz])
        clear hI hA hBy hS hc
        have HB0 := hB
        clear hB
        go_wp2_with (go_at_call 50; refine (hC.out).mono ?_; rintro e w1 ⟨rfl, hb1⟩)
        have HB1 := Lib.hid (below_step HB0.out hb1)
        clear HB0 hb1 hC hix
        go_ret
        exact ⟨by rw [HR.out]; rfl, below_step HU.out HB1.out⟩
    · have t0 : decide ((2 : Int) < 3) = true := by decide
      have hix := step_at2 (.func (.func 47) #[] #[.pointer (some ⟨T, 0, none⟩), .pointer (some ⟨G, 0, none⟩)]) (.func (.func 50) #[] #[]) (.func (.func 51) #[] #[])
      have hA := HA.out.keep lA hB.out
      have hBy := HBy.out.keep lB hB.out
      have hS := HS.out.keep lS hB.out
      have a0 : wr.cell? ⟨A, 0, none⟩ = some (.int .i64 x.id) := hA 0 _ rfl
      have a1 : wr.cell? ⟨A, 1, none⟩ = some (.int .i64 x.q) := hA 1 _ rfl
      have a2 : wr.cell? ⟨A, 2, none⟩ = some (.int .i64 x.p) := hA 2 _ rfl
      have a3 : wr.cell? ⟨A, 3, none⟩ = some (.int .i64 x.r) := hA 3 _ rfl
      have a4 : wr.cell? ⟨A, 4, none⟩ = some (.int .i64 x.g) := hA 4 _ rfl
      have a5 : wr.cell? ⟨A, 5, none⟩ = some (.int .i64 x.c) := hA 5 _ rfl
      have a6 : wr.cell? ⟨A, 6, none⟩ = some (.int .i64 x.mn) := hA 6 _ rfl
      have a7 : wr.cell? ⟨A, 7, none⟩ = some (.int .i64 x.mx) := hA 7 _ rfl
      have a8 : wr.cell? ⟨A, 8, none⟩ = some (.int .i64 x.s) := hA 8 _ rfl
      have a9 : wr.cell? ⟨A, 9, none⟩ = some (.int .i64 x.n) := hA 9 _ rfl
      have b0 : wr.cell? ⟨B, 0, none⟩ = some (.int .i64 y.id) := hBy 0 _ rfl
      have b1 : wr.cell? ⟨B, 1, none⟩ = some (.int .i64 y.q) := hBy 1 _ rfl
      have b2 : wr.cell? ⟨B, 2, none⟩ = some (.int .i64 y.p) := hBy 2 _ rfl
      have b3 : wr.cell? ⟨B, 3, none⟩ = some (.int .i64 y.r) := hBy 3 _ rfl
      have b4 : wr.cell? ⟨B, 4, none⟩ = some (.int .i64 y.g) := hBy 4 _ rfl
      have b5 : wr.cell? ⟨B, 5, none⟩ = some (.int .i64 y.c) := hBy 5 _ rfl
      have b6 : wr.cell? ⟨B, 6, none⟩ = some (.int .i64 y.mn) := hBy 6 _ rfl
      have b7 : wr.cell? ⟨B, 7, none⟩ = some (.int .i64 y.mx) := hBy 7 _ rfl
      have b8 : wr.cell? ⟨B, 8, none⟩ = some (.int .i64 y.s) := hBy 8 _ rfl
      have b9 : wr.cell? ⟨B, 9, none⟩ = some (.int .i64 y.n) := hBy 9 _ rfl
      have hC := Lib.hid (HC3.out wr)
      obtain ⟨c, hc⟩ : ∃ c, c = cmpI x.id y.id := ⟨_, rfl⟩
      rw [← hc] at hC
      have hcs : -1 ≤ c ∧ c ≤ 1 := by rw [hc]; exact cmpI_small _ _
      simp only [wtV, wtA] at hC
      by_cases hz : c = 0
      · subst hz
        have HP : Hid (Asked3 tick age x y 3) := Lib.hid (⟨fun _ => hI.out.1 (by omega), fun _ => hI.out.2.1 (by omega), fun _ => hc.symm⟩)
        clear hI hA hBy hS hc hcs
        have HB0 := hB
        clear hB
        go_wp2_with (go_at_call 51; refine (hC.out).mono ?_; rintro e w1 ⟨rfl, hb1⟩)
        have HB1 := Lib.hid (below_step HB0.out hb1)
        clear HB0 hb1 hC hix
        go_roundw
        case rel => exact ⟨3, rfl, by omega, by omega, HB1, HP⟩
        case measure => simp [intOf]
      · have t1 : (c != 0) = true := by simpa using hz
        have HR : Hid (cmpW tick age x y = c) := Lib.hid (by unfold cmpW; rw [hI.out.1 (by omega), hI.out.2.1 (by omega), ← hc, if_neg (by simp), if_neg (by simp)])
        clear hI hA hBy hS hc
        have HB0 := hB
        clear hB
        go_wp2_with (go_at_call 51; refine (hC.out).mono ?_; rintro e w1 ⟨rfl, hb1⟩)
        have HB1 := Lib.hid (below_step HB0.out hb1)
        clear HB0 hb1 hC hix
        go_ret
        exact ⟨by rw [HR.out]; rfl, below_step HU.out HB1.out⟩
    · have t0 : decide ((3 : Int) < 3) = false := by decide
      have HR : Hid (cmpW tick age x y = 0) := Lib.hid (by unfold cmpW; rw [hI.out.1 (by omega), hI.out.2.1 (by omega), hI.out.2.2 (by omega), if_neg (by simp), if_neg (by simp)])
      have HB0 := hB
      clear hI hB
      go_wp2
      go_ret
      exact ⟨by rw [HR.out]; rfl, below_step HU.out HB0.out⟩
end Go.Proofs.Ytdeniikaddlifaa
