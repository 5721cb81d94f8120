/- Queues: Sorted. -/
import Derived.Test.YtdeniikaddlifaaOrdSorts
import Derived.Test.YtdeniikaddlifaaQuIn
set_option maxRecDepth 100000
namespace Go.Proofs.Ytdeniikaddlifaa
open Go.RowKit
set_option maxHeartbeats 4000000 in
theorem sorted_i (p : Nat) (R : List Int) (L : List Wt) (now age : Int) (w0 w : World) (h : QuIn w0 w p R L) :
    Calls Try.prog 22 #[.pointer (some ⟨p, 0, none⟩), .int .i64 now, .int .i64 age] w fun e w' => Below w.heap.size w w' ∧
      (((mayA now age && (QL.allL R.length L).all mayW) = false ∧ e = .returned (.tuple #[.slice none 0 0, .int .i64 1])) ∨ ((mayA now age && (QL.allL R.length L).all mayW) = true ∧ ∃ v D w1, e = .returned (.tuple #[v, .int .i64 0]) ∧ Sorted now age (QL.allL R.length L) w1 w' v D)) := by
  have hA := all_i p R L w0 w h
  have hm := h.inv.all
  obtain ⟨M, hM⟩ : ∃ M, M = QL.allL R.length L := ⟨_, rfl⟩
  rw [← hM] at hA hm ⊢
  have HS := Lib.hid (fun A c W (hW : Wts W W.heap.size A M) => psort_any A c M now age W hW (by omega))
  obtain ⟨v, hv⟩ : ∃ v, v = M.length := ⟨_, rfl⟩
  rw [← hv] at hA hm HS
  clear h hM hv
  go_enter Try.func22, Try.ntmps22
  go_wp2_with fail
  refine hA.mono ?_
  rintro e w1 ⟨A, c, rfl, _, _, hW, hb⟩
  have HB := Lib.hid hb
  have hS := HS.out A c w1 hW
  clear hW hb hA HS
  go_wp2_with fail
  refine hS.mono ?_
  rintro e w2 ⟨hb2, ⟨hm2, rfl⟩ | ⟨hm2, vS, D, rfl, hD⟩⟩
  · have HE := Lib.hid (And.intro hm2 (below_step HB.out hb2))
    clear hm2 hb2 hS
    go_wp2
    refine bodyPost_ret (v := .tuple #[.slice none 0 0, .int .i64 1]) (by simp [results, Try.results22, go_sem]) rfl ?_
    exact ⟨HE.out.2, .inl ⟨HE.out.1, rfl⟩⟩
  · have HE := Lib.hid (And.intro hm2 (And.intro (below_step HB.out hb2) hD))
    obtain ⟨A2, c2, rfl, _⟩ := hD.row
    clear hm2 hb2 hS hD
    go_wp2
    refine bodyPost_ret (v := .tuple #[.slice A2 M.length c2, .int .i64 0]) (by simp [results, Try.results22, go_sem]) rfl ?_
    exact ⟨HE.out.2.1, .inr ⟨HE.out.1, _, D, w1, rfl, HE.out.2.2⟩⟩
end Go.Proofs.Ytdeniikaddlifaa
