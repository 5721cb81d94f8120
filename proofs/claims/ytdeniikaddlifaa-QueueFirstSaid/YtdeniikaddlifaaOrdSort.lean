/- Sort: all of the waits, sorted, in a slice of its own. -/
import Derived.Laws.EntriesVeiled
import Derived.Lib.SliceRun
import Derived.Test.YtdeniikaddlifaaElsApp
import Derived.Test.YtdeniikaddlifaaOrdMay
import Derived.Test.YtdeniikaddlifaaOrdCmp
import Derived.Test.YtdeniikaddlifaaOrdStable
import Derived.Test.YtdeniikaddlifaaOrdList
set_option maxRecDepth 100000
namespace Go.Proofs.Ytdeniikaddlifaa
open Go.RowKit
theorem wtC_one (x : Wt) : ∀ v ∈ wtC x, v.oneCell' = true := by simp [wtC, Value.oneCell']
theorem info_wt : (Try.prog.info? 39).map (fun i => (i.zero, i.size, i.bytes)) = some (some (.agg #[.int .i64 0, .int .i64 0, .int .i64 0, .int .i64 0, .int .i64 0, .int .i64 0, .int .i64 0, .int .i64 0, .int .i64 0, .int .i64 0]), 10, 80) := by kernel_rfl
set_option maxHeartbeats 2000000 in
theorem clone_w (A : Option Addr) (c : Nat) (l : List Wt) (w : World) (h : Wts w w.heap.size A l) (hn : l.length ≤ 100000) :
    Calls Try.prog 38 #[.slice A l.length c] w fun e w' => (l = [] ∧ e = .returned (.slice none 0 0) ∧ w = w') ∨ ∃ g cp, e = .returned (.slice (some ⟨g, 0, none⟩) l.length cp) ∧
      w'.ownsRow w.heap.size 39 10 (.slice (some ⟨g, 0, none⟩) l.length cp) l.length (l.flatMap wtC) ∧ Below w.heap.size w w' := by
  obtain ⟨n, hl⟩ : ∃ n, n = l.length := ⟨_, rfl⟩
  rw [← hl] at hn ⊢
  cases A with
  | none =>
    have h0 : l = [] := by
      rcases h with h | ⟨b, off, e, _⟩
      · exact h
      · cases e
    have hq := fun W => Lib.run_eql_slice_nil (P := Try.prog) W 31 _ none n c 0 0 Try.underlying31
    simp only [Option.isNone_none] at hq
    have H0 := Lib.hid h0
    clear h h0 hl
    go_enter Try.func38, Try.ntmps38
    go_wp2
    (try simp only [Exit.inBlock, Exit.then])
    refine bodyPost_ret (v := .slice none 0 0) (by simp [results, Try.results38, go_sem]) rfl ?_
    exact .inl ⟨H0.out, rfl, rfl⟩
  | some ad =>
    obtain ⟨i0, hi, hz0, hz1, hz2⟩ := info_parts info_wt
    have H := Lib.hid (And.intro h hl)
    have hq := fun W => Lib.run_eql_slice_nil (P := Try.prog) W 31 _ (some ad) n c 0 0 Try.underlying31
    simp only [Option.isNone_some] at hq
    clear h hl
    go_enter Try.func38, Try.ntmps38
    go_wp2_with (at_builtin; refine wpList_append_els (C := wtC) (k := 10) _ rfl _ _ 31 rfl w.heap.size 39 i0 _ 80 Try.underlying31 hi hz0 hz1 hz2 rfl (by decide) (.slice (some ⟨w.heap.size, 0, none⟩) 0 0) 0 [] rfl (World.ownsRow_lit w #[] 0 (Nat.le_refl _) (by unfold maxLen; omega) rfl) w.heap.size (some ad) c n l rfl (H.out.1.keep ((Below.refl w.heap.size w).alloc (Nat.le_refl _) (.cells #[] 39)) (Nat.le_refl _)) H.out.2 wtC_len wtC_one (by unfold maxLen; omega) (by omega) (by simp) ?_; intro A5 c5 w5 own5 g5 k5; rw [Nat.zero_add] at own5 ⊢; rw [List.nil_append] at own5)
    have k6 : ∃ j, (Value.slice A5 n c5).ownBlock = some j := by
      rw [Nat.zero_add] at k5
      rcases k5 with e | e
      · exact ⟨_, e.trans rfl⟩
      · exact ⟨_, e⟩
    have hob : ∀ j, (Value.slice (some ⟨w.heap.size, 0, none⟩) 0 0).ownBlock = some j → w.heap.size ≤ j := fun j hj => by
      have : j = w.heap.size := by simpa [Value.ownBlock] using hj.symm
      omega
    have hB := ((Below.refl w.heap.size w).alloc (Nat.le_refl _) (.cells #[] 39)).grown g5 (by simp) hob
    rcases own5.2 with ⟨e, h0⟩ | ⟨g, cap, cur, e, hr⟩
    · injection e with e1 _ _
      subst e1
      obtain ⟨j, hj⟩ := k6
      cases hj
    · injection e with e1 _ _
      subst e1
      refine bodyPost_ret (v := .slice (some ⟨g, 0, none⟩) n c5) (by simp [results, Try.results38, go_sem]) rfl ?_
      exact .inr ⟨g, c5, rfl, own5, hB⟩
/-- Nothing to sort. -/
theorem sort_nil (v0 : Value) (w : World) : Calls Try.prog 39 #[.slice none 0 0, .func (.func 52) #[] #[v0]] w fun e w' => e = .returned (.tuple #[]) ∧ w = w' := by
  have hi : ∀ W, Calls Try.prog 54 #[.slice none 0 0, .int .i64 0, .int .i64 0, .func (.func 52) #[] #[v0]] W fun e w' => e = .returned (.tuple #[]) ∧ W = w' := fun W => by
    go_enter Try.func54, Try.ntmps54
    go_wp2
    go_loopw [8] (fun vi wr => vi = .int .i64 1 ∧ W = wr) (fun _ _ => 0)
    case atStart => exact ⟨rfl, rfl⟩
    case round =>
      obtain ⟨rfl, rfl⟩ := hrel
      go_wp2
      go_end0
      exact ⟨rfl, rfl⟩
  have hs : Calls Try.prog 46 #[.slice none 0 0, .int .i64 0, .func (.func 52) #[] #[v0]] w fun e w' => e = .returned (.tuple #[]) ∧ w = w' := by
    go_enter Try.func46, Try.ntmps46
    go_wp2
    go_loopw [7, 8] (fun va vb wr => va = .int .i64 0 ∧ vb = .int .i64 20 ∧ w = wr) (fun _ _ _ => 0)
    case atStart => exact ⟨rfl, rfl, rfl⟩
    case round =>
      obtain ⟨rfl, rfl, rfl⟩ := hrel
      go_wp2_with fail
      refine (hi _).mono ?_
      rintro e w1 ⟨rfl, rfl⟩
      go_wp2
      go_loopw [6] (fun vs wr => vs = .int .i64 20 ∧ w = wr) (fun _ _ => 0)
      case atStart => exact ⟨rfl, rfl⟩
      case round =>
        obtain ⟨rfl, rfl⟩ := hrel
        go_wp2
        go_end0
        exact ⟨rfl, rfl⟩
  go_enter Try.func39, Try.ntmps39
  go_wp2_with fail
  refine hs.mono ?_
  rintro e w1 ⟨rfl, rfl⟩
  go_wp2
  go_end0
  exact ⟨rfl, rfl⟩
end Go.Proofs.Ytdeniikaddlifaa
