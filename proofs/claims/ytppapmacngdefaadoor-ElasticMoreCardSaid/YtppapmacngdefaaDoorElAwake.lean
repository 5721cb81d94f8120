/- The document's example for layer 14, which each law asks first. -/
import Derived.Test.YtppapmacngdefaaDoorElMake
set_option linter.unusedVariables false
set_option maxRecDepth 100000
namespace Go.Proofs.YtppapmacngdefaaDoor
open Go.RowKit
open PR
def evV : List Fe := [⟨0, 0, 255, 0⟩]
def evS : Shp := ⟨1, 0, 1, 7⟩
def evL (a b : Nat) : Lk := ⟨0, 0, 0, 0, some ⟨a, 0, none⟩, 1, evV, some ⟨b, 0, none⟩, 1, [⟨5, 0⟩], none, 0, [], none, 0, [], none, 0, []⟩
def evJ : Jb := ⟨0, 0, 0, 0, 1, 0, 1, 7⟩
theorem ev_most {n : Nat} {r : Int} (h : MostR evS evV 5 0 n r) : r = 0 ∧ n = 5 := by
  have k : MostR evS evV 5 0 5 0 := .inl ⟨rfl, by decide, by decide, (by show (0 : Int) = plE evS evV 5 0 5; kernel_rfl), fun m h1 h2 => by
    have h3 : m = 6 ∨ m = 7 := by have : evS.mx.toNat = 7 := rfl; omega
    rcases h3 with rfl | rfl
    · exact ⟨6, by decide, (by show (6 : Int) = plE evS evV 5 0 6; kernel_rfl)⟩
    · exact ⟨6, by decide, (by show (6 : Int) = plE evS evV 5 0 7; kernel_rfl)⟩⟩
  obtain ⟨h1, h2⟩ := h.same (fun m r r' a b => by rw [a, b]) k
  exact ⟨h1, h2 h1⟩
theorem ev_told {a b n : Nat} {r : Int} (h : MostE (evL a b) evJ n r) : r = 0 ∧ n = 5 := by
  rcases h with ⟨h, _⟩ | ⟨_, ⟨h, _⟩ | ⟨U, hU, h⟩⟩
  · have : evJ.S.ok = true := by kernel_rfl
    rw [this] at h; cases h
  · cases h
  · have e : leftL (evL a b) evJ.q = some ⟨5, 0⟩ := rfl
    rw [e] at hU
    injection hU with hU
    subst hU
    exact ev_most h
theorem ev_in {a b : Nat} (w : World) (ba : w.heap[a]? = some (.cells #[.int .i64 0, .int .i64 0, .int .u64 255, .int .i64 0] 52 (0, 0))) (bb : w.heap[b]? = some (.cells #[.int .i64 5, .int .i64 0] 40 (0, 0))) : LkIn w w.heap.size (evL a b) :=
  ⟨fe_blk (cs := evV.flatMap feC) ba (fun _ _ h => h) (blk_lt ba), els_blk luC_len bb (fun j v h => by simpa [evL, luC] using h), ⟨.inl rfl, fun x hx => by cases hx⟩, .inl rfl, .inl rfl⟩
theorem ev_ok (a b : Nat) : LkW (evL a b) where
  now := (by decide : (Lit.int .i64 0).wf = true)
  hd := (by decide : (Lit.int .i64 0).wf = true)
  pr := (by decide : (Lit.int .i64 0).wf = true)
  to := (by decide : (Lit.int .i64 0).wf = true)
  v := fun f hf => by
    simp [evL, evV] at hf
    subst hf
    exact ⟨by decide, by decide, by decide, by decide⟩
  l1 := Nat.le_refl _
  m1 := by show 1 ≤ maxLen; unfold maxLen; omega
  f := fun x hx => by
    simp [evL] at hx
    subst hx
    exact ⟨by decide, by decide⟩
  l2 := Nat.le_refl _
  m2 := by show 1 ≤ maxLen; unfold maxLen; omega
  e := fun x hx => by cases hx
  l3 := Nat.le_refl _
  m3 := Nat.zero_le _
  t := fun x hx => by cases hx
  l4 := Nat.le_refl _
  m4 := Nat.zero_le _
  l5 := Nat.le_refl _
  m5 := Nat.zero_le _
set_option maxHeartbeats 8000000 in
theorem awake14 (w : World) (hT : Tab w) : Calls Tryd.prog 5 #[] w fun e w' => e = .returned (.bool true) ∧ Below w.heap.size w w' := by
  have HT := Lib.hid hT
  have hM := Lib.hid (fun a b W (ba : W.heap[a]? = some (.cells #[.int .i64 0, .int .i64 0, .int .u64 255, .int .i64 0] 52 (0, 0))) (bb : W.heap[b]? = some (.cells #[.int .i64 5, .int .i64 0] 40 (0, 0))) (hT : Tab W) => show Calls Tryd.prog 7 #[.agg #[.int .i64 0, .int .i64 0, .int .i64 0, .int .i64 0, .slice (some ⟨a, 0, none⟩) 1 1, .slice (some ⟨b, 0, none⟩) 1 1, .slice none 0 0, .slice none 0 0, .slice none 0 0], .agg #[.int .i64 0, .int .i64 0, .int .i64 0, .int .i64 0, .int .i64 1, .int .i64 0, .int .i64 1, .int .i64 7]] W (fun e w' => MostJ (evL a b) evJ w' e ∧ Below W.heap.size W w') from
    most_any (evL a b) evJ W (ev_in W ba bb) (ev_ok a b) ⟨by decide, by decide, by decide, by decide, by decide, by decide, by decide, by decide⟩ (by show 1 ≤ 500000; omega) hT)
  clear hT
  obtain ⟨B0, hB0⟩ : ∃ B, B = w.heap.size := ⟨_, rfl⟩
  rw [← hB0]
  have HB0 := Lib.hid hB0
  clear hB0
  have HBel := Lib.hid (Below.refl w.heap.size w)
  have hlow : w.heap.size ≤ w.heap.size := Nat.le_refl _
  go_enter Tryd.func5, Tryd.ntmps5
  go_wp2_with fail
  obtain ⟨V1, hV1⟩ : ∃ W, W = (w.alloc (.cells #[.int .i64 0, .int .i64 0, .int .u64 255, .int .i64 0] 52)).alloc (.cells #[.int .i64 5, .int .i64 0] 40) := ⟨_, rfl⟩
  rw [← hV1]
  have hzV1 : V1.heap.size = w.heap.size + 1 + 1 := by rw [hV1]; simp
  replace HBel : Hid (Below w.heap.size w V1) := Lib.hid (by rw [hV1]; exact ((HBel.out.alloc (hlow) _).alloc (by simp <;> omega) _))
  have B_v : Hid (V1.heap[w.heap.size]? = some (.cells #[.int .i64 0, .int .i64 0, .int .u64 255, .int .i64 0] 52 (0, 0))) := Lib.hid (by
    have h9 := heap_alloc_new (w) (.cells #[.int .i64 0, .int .i64 0, .int .u64 255, .int .i64 0] 52)
    rw [hV1]; exact ((Below.heap_alloc _ _ _ (by simp <;> omega)).trans h9))
  have B_u : Hid (V1.heap[w.heap.size + 1]? = some (.cells #[.int .i64 5, .int .i64 0] 40 (0, 0))) := Lib.hid (by
    have h9 := heap_alloc_new (w.alloc (.cells #[.int .i64 0, .int .i64 0, .int .u64 255, .int .i64 0] 52)) (.cells #[.int .i64 5, .int .i64 0] 40)
    rw [World.size_alloc] at h9
    rw [hV1]; exact h9)
  obtain ⟨N_v, hN_v⟩ : ∃ N, N = w.heap.size := ⟨_, rfl⟩
  obtain ⟨N_u, hN_u⟩ : ∃ N, N = w.heap.size + 1 := ⟨_, rfl⟩
  (try rw [← hN_u])
  rw [← hN_u] at B_u
  (try rw [← hN_v])
  rw [← hN_v] at B_v
  have l_v : N_v < V1.heap.size := by omega
  have l_u : N_u < V1.heap.size := by omega
  have g_v : w.heap.size ≤ N_v := by omega
  have g_u : w.heap.size ≤ N_u := by omega
  have d_v_u : N_v < N_u := by omega
  replace hlow : w.heap.size ≤ V1.heap.size := by omega
  clear hV1 hzV1 hN_v hN_u
  refine (hM.out N_v N_u V1 B_v.out B_u.out (HT.out.below HBel.out HT.out.size)).mono ?_
  rintro e U2 ⟨⟨A, k, c, r, n, rfl, hE, hS, hN⟩, hb9⟩
  have hs9 := hb9.size
  replace HBel := Lib.hid (HBel.out.trans (hb9.mono hlow))
  replace B_v : Hid (U2.heap[N_v]? = some (.cells #[.int .i64 0, .int .i64 0, .int .u64 255, .int .i64 0] 52 (0, 0))) := Lib.hid ((hb9.block _ l_v).trans B_v.out)
  replace B_u : Hid (U2.heap[N_u]? = some (.cells #[.int .i64 5, .int .i64 0] 40 (0, 0))) := Lib.hid ((hb9.block _ l_u).trans B_u.out)
  replace l_v : N_v < U2.heap.size := by omega
  replace l_u : N_u < U2.heap.size := by omega
  replace hlow : w.heap.size ≤ U2.heap.size := by omega
  clear hb9 hs9
  obtain ⟨rfl, rfl⟩ := ev_told hE
  obtain rfl := (hS rfl).1
  clear hE hS hN
  go_wp2
  go_ret
  exact ⟨by first | rfl | simp, by rw [HB0.out]; exact HBel.out⟩
end Go.Proofs.YtppapmacngdefaaDoor
