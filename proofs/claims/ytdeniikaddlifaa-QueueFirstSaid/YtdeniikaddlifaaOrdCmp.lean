/- comparing: the closure, and what it refers to. -/
import Derived.Laws.EntriesVeiled
import Derived.Test.YtdeniikaddlifaaOrdCl
namespace Go.Proofs.Ytdeniikaddlifaa
open Go.RowKit
theorem third_new (w : World) (a b : Obj) (cs : Array Value) (t : TypeId) : (((w.alloc a).alloc b).alloc (.cells cs t)).heap[w.heap.size + 1 + 1]? = some (.cells cs t (0, 0)) := by
  have := heap_alloc_new ((w.alloc a).alloc b) (.cells cs t)
  simpa using this
theorem first_new (w : World) (a b c : Obj) : (((w.alloc a).alloc b).alloc c).heap[w.heap.size]? = some a := by
  rw [Below.heap_alloc _ _ _ (by simp; omega), Below.heap_alloc _ _ _ (by simp)]
  exact heap_alloc_new w a
theorem second_new (w : World) (a b c : Obj) : (((w.alloc a).alloc b).alloc c).heap[w.heap.size + 1]? = some b := by
  rw [Below.heap_alloc _ _ _ (by simp)]
  have := heap_alloc_new (w.alloc a) b
  simpa using this
set_option maxRecDepth 100000 in
set_option maxHeartbeats 2000000 in
/-- comparing: the closure, and what it refers to. -/
theorem comparing_any (tick age : Int) (w : World) : Calls Try.prog 40 #[.int .i64 tick, .int .i64 age] w fun e w' => ∃ S T G : Nat, e = .returned (.func (.func 52) #[] #[.pointer (some ⟨S, 0, none⟩)]) ∧
    Cmps w' S T G tick age ∧ Below w.heap.size w w' ∧ w.heap.size ≤ S ∧ w.heap.size ≤ T ∧ w.heap.size ≤ G := by
  obtain ⟨F, hF⟩ : ∃ F, F = Value.func (.func 47) #[] #[.pointer (some ⟨w.heap.size, 0, none⟩), .pointer (some ⟨w.heap.size + 1, 0, none⟩)] := ⟨_, rfl⟩
  have hn := fun cs => third_new w (.cells #[.int .i64 tick] 3) (.cells #[.int .i64 age] 3) cs 84
  have z0 := cell_blk (i := 0) (hn #[.nilFunc, .nilFunc, .nilFunc]) rfl
  have z1 := cell_blk (i := 1) (hn #[F, .nilFunc, .nilFunc]) rfl
  have z2 := cell_blk (i := 2) (hn #[F, .func (.func 50) #[] #[], .nilFunc]) rfl
  have f0 := frozen_blk (i := 0) (hn #[.nilFunc, .nilFunc, .nilFunc])
  have f1 := frozen_blk (i := 1) (hn #[F, .nilFunc, .nilFunc])
  have f2 := frozen_blk (i := 2) (hn #[F, .func (.func 50) #[] #[], .nilFunc])
  have hE := hn #[F, .func (.func 50) #[] #[], .func (.func 51) #[] #[]]
  have hB := ((((Below.refl w.heap.size w).alloc (Nat.le_refl _) (.cells #[.int .i64 tick] 3)).alloc (by simp) (.cells #[.int .i64 age] 3)).alloc (by simp; omega) (.cells #[F, .func (.func 50) #[] #[], .func (.func 51) #[] #[]] 84))
  have h1 := first_new w (.cells #[.int .i64 tick] 3) (.cells #[.int .i64 age] 3) (.cells #[F, .func (.func 50) #[] #[], .func (.func 51) #[] #[]] 84)
  have h2 := second_new w (.cells #[.int .i64 tick] 3) (.cells #[.int .i64 age] 3) (.cells #[F, .func (.func 50) #[] #[], .func (.func 51) #[] #[]] 84)
  subst hF
  have HE := Lib.hid (And.intro hE (And.intro hB (And.intro h1 h2)))
  clear hn hE hB h1 h2
  go_enter Try.func40, Try.ntmps40
  go_wp2
  refine bodyPost_ret (v := .func (.func 52) #[] #[.pointer (some ⟨w.heap.size + 1 + 1, 0, none⟩)]) (by simp [results, Try.results40, go_sem]) rfl ?_
  obtain ⟨hE, hB, h1, h2⟩ := HE.out
  exact ⟨_, _, _, rfl, ⟨cell_blk (i := 0) hE rfl, cell_blk (i := 1) hE rfl, cell_blk (i := 2) hE rfl, cell_blk (i := 0) h1 rfl, cell_blk (i := 0) h2 rfl⟩, hB, by omega, by omega, by omega⟩
end Go.Proofs.Ytdeniikaddlifaa
