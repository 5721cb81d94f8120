/- The document's timer: Drop and Set. -/
import Derived.Test.YtdoaihmeldkahaaTimerRef2
set_option linter.unusedVariables false
namespace Go.Proofs.Ytdoaihmeldkahaa
open Go.RowKit

theorem info_rn : (Try.prog.info? 43).map (fun i => (i.zero, i.size, i.bytes)) = some (some (.agg #[.int .i64 0, .int .i64 0]), 2, 16) := by kernel_rfl
/-- A row that was made anew is the timer's. -/
theorem RAt.made {w : World} {p B n c : Nat} {u : Value} {A : Option Addr} {M : List En} (h : w.heap[p]? = some (.cells #[u] 29 (0, 0))) (hown : w.ownsRow B 43 2 (.slice A n c) n (M.flatMap rnC)) (hn : M.length = n) (hp : p < B) (hf : n ≤ 5000) :
    RAt (w.setCell ⟨p, 0, none⟩ (.slice A n c)) p A c M ∧ ∀ j, rB p A M j → j = p ∨ B ≤ j := by
  subst hn
  obtain ⟨h1, h2⟩ := els_own rnC_len hown rfl
  have hform : A = none ∨ ∃ b off, A = some ⟨b, off, none⟩ := by
    rcases hown.2 with ⟨e, _⟩ | ⟨g, cap, cur, e, _⟩
    · injection e with e1; exact .inl e1
    · injection e with e1; exact .inr ⟨g, 0, e1⟩
  have hroom : M.length ≤ c := by
    rcases hown.2 with ⟨e, h0⟩ | ⟨g, cap, cur, e, _, _, h3, _⟩
    · omega
    · injection e with _ _ e3; subst e3; exact h3
  refine ⟨⟨?_, ?_, hroom, hform, fun b off e _ e2 => ?_, hf⟩, fun j hj => ?_⟩
  · have := blk_put (i := 0) (.slice A M.length c) h
    simpa using this
  · refine (h1.off fun b off e hb => ?_).imp (by simp) fun _ _ _ _ hd => hd
    exact Below.heap_setCell w ⟨p, 0, none⟩ _ b (by have := (h2 b off e).1; show b ≠ p; omega)
  · have := (h2 b off e).1; omega
  · rcases hj with e | ⟨_, off, e⟩
    · exact .inl e
    · exact .inr (h2 j off e).1
/-- The row's first so many. -/
theorem els_take {w : World} {B : Nat} {A : Option Addr} {L : List En} (h : Els rnC 2 w B A L) (k c : Nat) (F : Option Addr) (hF : F = A) : Els rnC 2 w B F (L.take k) := by
  subst hF
  rcases h with rfl | ⟨b, off, rfl, hb, hc⟩
  · exact .inl (by simp)
  · refine .inr ⟨b, off, rfl, hb, fun i x hx => hc i x ?_⟩
    rw [List.getElem?_take] at hx
    split at hx
    · exact hx
    · cases hx
/-- The row from a place on. -/
theorem els_drop {w : World} {B b off : Nat} {L : List En} (h : Els rnC 2 w B (some ⟨b, off, none⟩) L) (k c : Nat) (hc : L.length ≤ c) : Els rnC 2 w B (if c = k then some ⟨b, off, none⟩ else some ⟨b, off + k * 2, none⟩) (L.drop k) := by
  by_cases e : c = k
  · refine .inl (List.drop_eq_nil_of_le (by omega))
  · rw [if_neg e]
    rcases h with rfl | ⟨b', off', e1, hb, hcc⟩
    · exact .inl (by simp)
    · injection e1 with e1
      injection e1 with e1 e2
      subst e1; subst e2
      refine .inr ⟨b, off + k * 2, rfl, hb, fun i x hx => ?_⟩
      rw [show off + k * 2 + i * 2 = off + (k + i) * 2 by omega]
      exact hcc (k + i) x (by rwa [List.getElem?_drop] at hx)
set_option maxRecDepth 100000 in
set_option maxHeartbeats 4000000 in
theorem drop_r (p : Nat) (G : Nat → Prop) (L : List En) (i : Int) (w : World) (h : RObj w p G L) :
    Calls Try.prog 12 #[.pointer (some ⟨p, 0, none⟩), .int .i64 i] w fun e w' => e = .returned (.int .i64 (TM.tDrop L i).1) ∧ ∃ G', RObj w' p G' (TM.tDrop L i).2 ∧ Foot (· = p) w w' ∧ ∀ j, G' j → G j ∨ w.heap.size ≤ j := by
  obtain ⟨E, hE⟩ : ∃ E, E = TM.tDrop L i := ⟨_, rfl⟩
  rw [← hE]
  unfold TM.tDrop at hE
  have hO := Lib.hid h
  have HF := Lib.hid (find_r p G L i w h)
  obtain ⟨A, c, h, rfl⟩ := h
  obtain ⟨c0, f0, hpl⟩ := h.head
  have hfew := h.few
  have hroom := h.room
  obtain ⟨n, hn⟩ : ∃ n, n = L.length := ⟨_, rfl⟩
  rw [← hn] at c0 hfew hroom
  have H := Lib.hid (And.intro h (And.intro hn hE))
  clear h hn hE
  go_enter Try.func12, Try.ntmps12
  go_wp2_with fail
  refine HF.out.mono ?_
  rintro e w1 ⟨r, rfl, rfl, hr⟩
  have hE := H.out.2.2
  rcases hr with ⟨e1, rfl⟩ | ⟨k, x, rfl, hx, e1, e2⟩
  · rw [e1, if_pos rfl] at hE
    subst hE
    go_wp2
    go_ret
    exact ⟨rfl, _, hO.out, Foot.refl _ _, fun j hj => .inl hj⟩
  · rw [e1, if_neg (by simp), e2] at hE
    obtain ⟨b, off, rfl, hb, hbp, _, _⟩ := H.out.1.at_ hx
    have hk : k < n := by rw [H.out.2.1]; exact (List.getElem?_eq_some_iff.1 hx).1
    have t0 : decide ((k : Int) < 0) = false := decide_eq_false (by omega)
    have ht := Lib.hid (els_take H.out.1.row k c _ rfl)
    obtain ⟨d, hd1⟩ : ∃ d, d = k + 1 := ⟨_, rfl⟩
    rw [← hd1] at hE
    have HE := Lib.hid (And.intro hE hd1)
    have hd := Lib.hid (els_drop H.out.1.row d c H.out.1.room)
    have hcb : k ≤ c := by omega
    have hdn : d ≤ n := by omega
    have ew : IntKind.i64.wrap ((k : Int) + 1) = (d : Int) := by rw [IntWalk.i64_in _ (by omega)]; omega
    clear hd1
    obtain ⟨i0, hi, hz0, hz1, hz2⟩ := info_parts info_rn
    clear hx e1 e2 hE
    go_wp2_with fail
    refine wp_until (fun w' : World => w'.cell? ⟨p, 0, none⟩ = some (.slice (some ⟨b, off, none⟩) n c)) 19 (by kernel_rfl) ?_
    have hS : (fun w' : World => w'.cell? ⟨p, 0, none⟩ = some (.slice (some ⟨b, off, none⟩) n c)) w.drew := c0
    have f4 : w.drew.frozen? ⟨p, 0, none⟩ = false := f0
    have H4 := Lib.hid (show Below w.heap.size w w.drew from (Below.refl _ _).drew)
    have hs4 : w.heap.size = w.drew.heap.size := rfl
    clear c0 f0
    generalize w.drew = w4 at hS f4 H4 hs4 ⊢
    refine until_take (v := ?_) 0 11 rfl rfl (by kernel_rfl) (by kernel_rfl) (by kernel_rfl) (by kernel_rfl) (fun _ _ _ h => h) ⟨by rfl, ?_⟩ hS ?_
    rotate_left
    · intro w' hw'; have x0 : w'.cell? ⟨p, 0, none⟩ = some (.slice (some ⟨b, off, none⟩) n c) := hw'; go_simp; (try with_reducible rfl)
    simp only [Act.put, List.setIfInBounds_toArray, List.set_cons_zero, List.set_cons_succ]
    refine until_take (v := ?_) 2 13 rfl rfl (by kernel_rfl) (by kernel_rfl) (by kernel_rfl) (by kernel_rfl) (fun _ _ _ h => h) ⟨by rfl, ?_⟩ hS ?_
    rotate_left
    · intro w' hw'; have x0 : w'.cell? ⟨p, 0, none⟩ = some (.slice (some ⟨b, off, none⟩) n c) := hw'; go_simp; (try with_reducible rfl)
    simp only [Act.put, List.setIfInBounds_toArray, List.set_cons_zero, List.set_cons_succ]
    refine until_take (v := ?_) 3 14 rfl rfl (by kernel_rfl) (by kernel_rfl) (by kernel_rfl) (by kernel_rfl) (fun _ _ _ h => h) ⟨by rfl, ?_⟩ hS ?_
    rotate_left
    · intro w' hw'; have x0 : w'.cell? ⟨p, 0, none⟩ = some (.slice (some ⟨b, off, none⟩) n c) := hw'; go_simp; (try with_reducible rfl)
    simp only [Act.put, List.setIfInBounds_toArray, List.set_cons_zero, List.set_cons_succ]
    refine until_take (v := ?_) 4 15 rfl rfl (by kernel_rfl) (by kernel_rfl) (by kernel_rfl) (by kernel_rfl) (fun _ _ _ h => h) ⟨by rfl, ?_⟩ hS ?_
    rotate_left
    · intro w' hw'; have x0 : w'.cell? ⟨p, 0, none⟩ = some (.slice (some ⟨b, off, none⟩) n c) := hw'; go_simp; (try with_reducible rfl)
    simp only [Act.put, List.setIfInBounds_toArray, List.set_cons_zero, List.set_cons_succ]
    refine until_take (v := ?_) 5 16 rfl rfl (by kernel_rfl) (by kernel_rfl) (by kernel_rfl) (by kernel_rfl) (fun _ _ _ h => h) ⟨by rfl, ?_⟩ hS ?_
    rotate_left
    · intro w' hw'; have x0 : w'.cell? ⟨p, 0, none⟩ = some (.slice (some ⟨b, off, none⟩) n c) := hw'; go_simp; (try with_reducible rfl)
    simp only [Act.put, List.setIfInBounds_toArray, List.set_cons_zero, List.set_cons_succ]
    refine until_take (v := ?_) 6 17 rfl rfl (by kernel_rfl) (by kernel_rfl) (by kernel_rfl) (by kernel_rfl) (fun _ _ _ h => h) ⟨by rfl, ?_⟩ hS ?_
    rotate_left
    · intro w' hw'; have x0 : w'.cell? ⟨p, 0, none⟩ = some (.slice (some ⟨b, off, none⟩) n c) := hw'; go_simp; (try with_reducible rfl)
    simp only [Act.put, List.setIfInBounds_toArray, List.set_cons_zero, List.set_cons_succ]
    refine until_take (v := ?_) 7 18 rfl rfl (by kernel_rfl) (by kernel_rfl) (by kernel_rfl) (by kernel_rfl) (fun _ _ _ h => h) ⟨by rfl, ?_⟩ hS ?_
    rotate_left
    · intro w' hw'; have x0 : w'.cell? ⟨p, 0, none⟩ = some (.slice (some ⟨b, off, none⟩) n c) := hw'; go_simp; (try with_reducible rfl)
    simp only [Act.put, List.setIfInBounds_toArray, List.set_cons_zero, List.set_cons_succ]
    refine until_take (v := ?_) 9 20 rfl rfl (by kernel_rfl) (by kernel_rfl) (by kernel_rfl) (by kernel_rfl) (fun _ _ _ h => h) ⟨by rfl, ?_⟩ hS ?_
    rotate_left
    · intro w' hw'; have x0 : w'.cell? ⟨p, 0, none⟩ = some (.slice (some ⟨b, off, none⟩) n c) := hw'; go_simp; (try with_reducible rfl)
    simp only [Act.put, List.setIfInBounds_toArray, List.set_cons_zero, List.set_cons_succ]
    refine until_take (v := ?_) 10 21 rfl rfl (by kernel_rfl) (by kernel_rfl) (by kernel_rfl) (by kernel_rfl) (fun _ _ _ h => h) ⟨by rfl, ?_⟩ hS ?_
    rotate_left
    · intro w' hw'; have x0 : w'.cell? ⟨p, 0, none⟩ = some (.slice (some ⟨b, off, none⟩) n c) := hw'; go_simp; (try with_reducible rfl)
    simp only [Act.put, List.setIfInBounds_toArray, List.set_cons_zero, List.set_cons_succ]
    refine until_take (v := ?_) 11 22 rfl rfl (by kernel_rfl) (by kernel_rfl) (by kernel_rfl) (by kernel_rfl) (fun _ _ _ h => h) ⟨by rfl, ?_⟩ hS ?_
    rotate_left
    · intro w' hw'; have x0 : w'.cell? ⟨p, 0, none⟩ = some (.slice (some ⟨b, off, none⟩) n c) := hw'; go_simp; (try with_reducible rfl)
    simp only [Act.put, List.setIfInBounds_toArray, List.set_cons_zero, List.set_cons_succ]
    refine until_take (v := ?_) 12 23 rfl rfl (by kernel_rfl) (by kernel_rfl) (by kernel_rfl) (by kernel_rfl) (fun _ _ _ h => h) ⟨by rfl, ?_⟩ hS ?_
    rotate_left
    · intro w' hw'; have x0 : w'.cell? ⟨p, 0, none⟩ = some (.slice (some ⟨b, off, none⟩) n c) := hw'; go_simp; (try with_reducible rfl)
    simp only [Act.put, List.setIfInBounds_toArray, List.set_cons_zero, List.set_cons_succ]
    refine until_take (v := ?_) 13 24 rfl rfl (by kernel_rfl) (by kernel_rfl) (by kernel_rfl) (by kernel_rfl) (fun _ _ _ h => h) ⟨by rfl, ?_⟩ hS ?_
    rotate_left
    · intro w' hw'; have x0 : w'.cell? ⟨p, 0, none⟩ = some (.slice (some ⟨b, off, none⟩) n c) := hw'; go_simp; (try with_reducible rfl)
    simp only [Act.put, List.setIfInBounds_toArray, List.set_cons_zero, List.set_cons_succ]
    refine until_take (v := ?_) 14 25 rfl rfl (by kernel_rfl) (by kernel_rfl) (by kernel_rfl) (by kernel_rfl) (fun _ _ _ h => h) ⟨by rfl, ?_⟩ hS ?_
    rotate_left
    · intro w' hw'; have x0 : w'.cell? ⟨p, 0, none⟩ = some (.slice (some ⟨b, off, none⟩) n c) := hw'; go_simp; (try with_reducible rfl)
    simp only [Act.put, List.setIfInBounds_toArray, List.set_cons_zero, List.set_cons_succ]
    refine until_take (v := ?_) 15 26 rfl rfl (by kernel_rfl) (by kernel_rfl) (by kernel_rfl) (by kernel_rfl) (fun _ _ _ h => h) ⟨by rfl, ?_⟩ hS ?_
    rotate_left
    · intro w' hw'; have x0 : w'.cell? ⟨p, 0, none⟩ = some (.slice (some ⟨b, off, none⟩) n c) := hw'; go_simp; (try with_reducible rfl)
    simp only [Act.put, List.setIfInBounds_toArray, List.set_cons_zero, List.set_cons_succ]
    clear ew
    generalize (if c = d then some (⟨b, off, none⟩ : Addr) else some ⟨b, off + d * 2, none⟩) = Ad at hd ⊢
    refine until_one 1 rfl (by kernel_rfl) rfl (fun K hK => ?_)
    go_simp
    have hst := (Below.refl w4.heap.size w4).alloc (Nat.le_refl _) (.cells #[] 43)
    have hS4 : (fun w' : World => w'.cell? ⟨p, 0, none⟩ = some (.slice (some ⟨b, off, none⟩) n c)) (w4.alloc (.cells #[] 43)) := (hst.cell (p := ⟨p, 0, none⟩) (show p < _ by omega)).trans hS
    refine hK.out _ _ (fun _ => hS4) ?_
    clear hK K
    refine until_one 8 rfl (by kernel_rfl) rfl (fun K hK => ?_)
    simp only [Go.wp_at_zero, Go.wp_at_succ]
    have hB1 : Below w.heap.size w (w4.alloc (.cells #[] 43)) := H4.out.alloc (by omega) _
    have hlk : (L.take k).length = k := by rw [List.length_take, ← H.out.2.1]; omega
    refine wp_append_els (C := rnC) (k := 2) _ _ _ 27 rfl w4.heap.size 43 i0 _ 16 Try.underlying27 hi hz0 hz1 hz2 rfl (by decide) (.slice (some ⟨w4.heap.size, 0, none⟩) 0 0) 0 [] rfl (World.ownsRow_lit w4 #[] 0 (Nat.le_refl _) (by unfold maxLen; omega) rfl) w.heap.size (some ⟨b, off, none⟩) c k (L.take k) rfl (ht.out.keep hB1 (Nat.le_refl _)) hlk.symm rnC_len rnC_one (by unfold maxLen; omega) (by omega) (by simp) ?_
    intro A5 c5 w5 hown5 hg5 hb5
    rw [Nat.zero_add] at hown5 ⊢
    rw [List.nil_append] at hown5
    have hob : ∀ j, (Value.slice (some ⟨w4.heap.size, 0, none⟩) 0 0).ownBlock = some j → j = w4.heap.size := fun j hj => by simpa [Value.ownBlock] using hj.symm
    have hB5 : Below w.heap.size w w5 := hB1.grown hg5 (by simp; omega) (fun j hj => by have := hob j hj; omega)
    have hs5 := hB5.size
    have hg5s := hg5.size
    simp only [World.size_alloc] at hg5s
    have hS5 : (fun w' : World => w'.cell? ⟨p, 0, none⟩ = some (.slice (some ⟨b, off, none⟩) n c)) w5 := (hg5.cell_far ⟨p, 0, none⟩ (by simp; omega) (fun e => by have := hob p e.symm; omega)).trans hS4
    refine hK.out _ _ (fun _ => hS5) ?_
    clear hK K
    simp only [Act.put, List.setIfInBounds_toArray, List.set_cons_zero, List.set_cons_succ]
    refine until_one 16 rfl (by kernel_rfl) rfl (fun K hK => ?_)
    simp only [Go.wp_at_zero, Go.wp_at_succ]
    have hld : (L.drop d).length = n - d := by rw [List.length_drop, ← H.out.2.1]
    refine wp_append_els (C := rnC) (k := 2) _ _ _ 27 rfl w4.heap.size 43 i0 _ 16 Try.underlying27 hi hz0 hz1 hz2 rfl (by decide) (.slice A5 k c5) k _ rfl hown5 w.heap.size _ (c - d) (n - d) (L.drop d) rfl (hd.out.keep hB5 (Nat.le_refl _)) hld.symm rnC_len rnC_one (by unfold maxLen; omega) (by omega) (by omega) ?_
    intro A6 c6 w6 hown6 hg6 hb6
    have hob5 : ∀ j, (Value.slice A5 k c5).ownBlock = some j → w4.heap.size ≤ j := fun j hj => (hown5.lt j hj).1
    have hB6 : Below w.heap.size w w6 := hB5.grown hg6 hs5 (fun j hj => by have := hob5 j hj; omega)
    have hs6 := hB6.size
    have hS6 : (fun w' : World => w'.cell? ⟨p, 0, none⟩ = some (.slice (some ⟨b, off, none⟩) n c)) w6 := (hg6.cell_far ⟨p, 0, none⟩ (by show p < w5.heap.size; omega) (fun e => by have := hob5 p e.symm; omega)).trans hS5
    have g6 : w6.frozen? ⟨p, 0, none⟩ = false := (hB6.frozen (p := ⟨p, 0, none⟩) hpl).trans H.out.1.head.2.1
    refine hK.out _ _ (fun _ => hS6) ?_
    clear hK K
    simp only [Act.put, List.setIfInBounds_toArray, List.set_cons_zero, List.set_cons_succ]
    have hS7 : w6.cell? ⟨p, 0, none⟩ = some (.slice (some ⟨b, off, none⟩) n c) := hS6
    refine until_one 17 rfl (by kernel_rfl) rfl (fun K hK => ?_)
    go_simp
    refine hK.out _ _ (fun _ => hS6) ?_
    clear hK K
    refine until_one 18 rfl (by kernel_rfl) rfl (fun K hK => ?_)
    go_simp
    refine hK.out _ _ (fun _ => hS6) ?_
    clear hK K
    refine until_one 19 rfl (by kernel_rfl) rfl (fun K hK => ?_)
    go_simp
    refine hK.out _ _ (fun h => absurd h (by decide)) ?_
    clear hK K
    refine until_done (by kernel_rfl) ?_
    have hM : (L.take k ++ L.drop d).length = k + (n - d) := by rw [List.length_append, hlk, hld]
    have hobj : w6.heap[p]? = some (.cells #[.slice (some ⟨b, off, none⟩) n c] 29 (0, 0)) := (hB6.block p hpl).trans (by have := H.out.1.obj; rwa [← H.out.2.1] at this)
    have hmade := RAt.made (M := L.take k ++ L.drop d) hobj (by rw [List.flatMap_append]; exact hown6) hM (by omega) (by have := HE.out.2; omega)
    have HM := Lib.hid (And.intro hmade hB6)
    clear hS hS4 hS5 hS6 hS7 hst hB1 hB5 hB6 hown5 hown6 hg5 hg6 hb5 hb6 hob hob5 hobj hmade g6 f4 hlk hld hM
    go_wp2
    go_ret
    rw [HE.out.1]
    refine ⟨rfl, _, ⟨A6, c6, HM.out.1.1, rfl⟩, (Foot.of_below (F := (· = p)) HM.out.2).setCell (p := ⟨p, 0, none⟩) (.inl rfl) _, fun j hj => ?_⟩
    rcases HM.out.1.2 j hj with e | e
    · exact .inl (.inl e)
    · exact .inr (by omega)
end Go.Proofs.Ytdoaihmeldkahaa
