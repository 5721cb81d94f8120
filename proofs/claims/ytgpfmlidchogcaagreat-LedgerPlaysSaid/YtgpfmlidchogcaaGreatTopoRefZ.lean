/- The document's answers for layer 2: Count, All, Same, Index. -/
/- The document's answers for layer 2: All, Same, Index. -/
import Derived.Deep.QuietTactic
import Derived.BigQuiet
import Derived.Deep.RegionHeld3
import Derived.StillTailTactics
import Derived.Deep.DrawnRows
import Derived.Test.YtgpfmlidchogcaaGreatTopoZ
import Derived.Test.YtgpfmlidchogcaaGreatMaskZ
namespace Go.Proofs.YtgpfmlidchogcaaGreat
open Go.RowKit
attribute [local go_sem ↓] Go.wp_at_zero Go.wp_at_succ

end Go.Proofs.YtgpfmlidchogcaaGreat

namespace Go.Proofs.YtgpfmlidchogcaaGreat
open Go.RowKit
set_option maxRecDepth 100000 in
set_option maxHeartbeats 2000000 in
theorem same_some (b off c n b' off' c' : Nat) (l : List Fr) (w : World) (hn : l.length = n) (hb : b < w.heap.size) (hb' : b' < w.heap.size) (hc : ∀ i x, l[i]? = some x → FrAt w b (off + i * 4) x) (hc' : ∀ i x, l[i]? = some x → FrAt w b' (off' + i * 4) x) (hl : n ≤ 1000) :
    Calls Tryz.prog 40 #[.slice (some ⟨b, off, none⟩) n c, .slice (some ⟨b', off', none⟩) n c'] w fun e w' => e = .returned (.bool true) ∧ Below w.heap.size w w' := by
  have H := Lib.hid (And.intro hn (And.intro hc hc'))
  clear hn hc hc'
  have q0 : ((n : Int) != (n : Int)) = false := by simp
  go_enter Tryz.func40, Tryz.ntmps40
  go_wp2
  go_loopw [5] (fun i wr => ∃ k : Nat, i = .int .i64 k ∧ k ≤ n ∧ Below w.heap.size w wr) (fun i _ => n - (intOf i).toNat)
  case atStart => exact ⟨0, rfl, by omega, Below.refl _ _⟩
  case round =>
    obtain ⟨k, rfl, hk, hBl⟩ := hrel
    by_cases hlt : k < n
    · obtain ⟨f, hx⟩ := get_lt (l := l) (k := k) (by rw [H.out.1]; exact hlt)
      obtain ⟨f0, f1, f2, f3⟩ := (H.out.2.1 k f hx).keep hb hBl
      obtain ⟨g0, g1, g2, g3⟩ := (H.out.2.2 k f hx).keep hb' hBl
      have t0 : decide (k < n) = true := by simpa using hlt
      have j0 : (0 : Int) ≤ (k : Int) := by omega
      have j1 : (k : Int) < (n : Int) := by omega
      clear hx
      go_wp2_with fail
      go_quiet (fail)
      go_wp2
      go_roundw
      case rel => exact ⟨k + 1, by go_num, by omega, below_drewN hBl _⟩
      case measure => simp [intOf]; omega
    · obtain rfl : k = n := by omega
      clear hlt
      go_wp2
      go_ret
      exact ⟨rfl, hBl⟩
/-! ### All -/
set_option maxRecDepth 100000 in
set_option maxHeartbeats 4000000 in
theorem refall_loop (b off c n : Nat) (ns : List (List (Int × Int))) (hn : ns.length = n) (w : World) (hb : b < w.heap.size) (hc : ∀ i x, ns[i]? = some x → NodeAt w w.heap.size b (off + i * 1) x) (hok : cluOk ns = true) :
    Calls Tryz.prog 62 #[.agg #[.slice (some ⟨b, off, none⟩) n c]] w fun e w' => ∃ v, e = .returned v ∧ w'.ownsRow (w.heap.size + 1) 144 4 v (frees ns).length ((frees ns).flatMap frC) ∧ Below w.heap.size w w' := by
  obtain ⟨hn1, hn2⟩ := cluOk_len hok
  rw [hn] at hn1 hn2
  have Q := Lib.hid (And.intro hn (And.intro hc hok))
  clear hn hc hok
  obtain ⟨i0, hi, hz0, hz1, hz2⟩ := info_parts info_free
  have c1 : (w.alloc (.cells #[.slice (some ⟨b, off, none⟩) n c] 24)).cell? ⟨w.heap.size, 0, none⟩ = some (.slice (some ⟨b, off, none⟩) n c) := by go_simp
  have hB1 := (Below.refl w.heap.size w).alloc (Nat.le_refl _) (.cells #[.slice (some ⟨b, off, none⟩) n c] 24)
  have hs1 : w.heap.size + 1 ≤ (w.alloc (.cells #[.slice (some ⟨b, off, none⟩) n c] 24)).heap.size := by simp
  go_enter Tryz.func62, Tryz.ntmps62
  go_wp2
  generalize w.alloc (.cells #[.slice (some ⟨b, off, none⟩) n c] 24) = w1 at c1 hB1 hs1 ⊢
  go_loopw [3, 4] (fun out i wr => ∃ (k : Nat) (A : Option Addr) (cp : Nat), i = .int .i64 k ∧ out = .slice A (frees (ns.take k)).length cp ∧ k ≤ n ∧ Below w.heap.size w wr ∧ wr.cell? ⟨w.heap.size, 0, none⟩ = some (.slice (some ⟨b, off, none⟩) n c) ∧ w.heap.size + 1 ≤ wr.heap.size ∧ wr.ownsRow (w.heap.size + 1) 144 4 (.slice A (frees (ns.take k)).length cp) (frees (ns.take k)).length ((frees (ns.take k)).flatMap frC)) (fun _ i _ => n - (intOf i).toNat)
  case atStart => exact ⟨0, none, 0, rfl, by simp [frees], by omega, hB1, c1, hs1, World.ownsRow_nil _ _ _ _⟩
  case round =>
    obtain ⟨k, A, cp, rfl, rfl, hk, hBl, hbox, hsz, hown⟩ := hrel
    by_cases hlt : k < n
    · obtain ⟨ds, hx⟩ := get_lt (l := ns) (by rw [Q.out.1]; exact hlt)
      obtain ⟨A', c', d0, hl1, hl2, hds⟩ := Q.out.2.1 k _ hx
      have hok := cluOk_node Q.out.2.2 hx
      have hdl := nodeOk_len hok
      obtain ⟨y, hy⟩ := get_lt (l := ds) (k := 0) (by omega)
      obtain ⟨b', off', rfl, hb', hc'⟩ := hds.at_ hy
      obtain ⟨q, hq⟩ : ∃ q, ds.length = q := ⟨_, rfl⟩
      rw [hq] at d0 hdl
      rw [Nat.mul_one] at d0
      have t0 : decide (k < n) = true := by simpa using hlt
      have hfl := frees_take_len Q.out.2.2 k (by rw [Q.out.1]; exact hk)
      have X := Lib.hid (And.intro hx (And.intro hok (And.intro hq (And.intro hc' d0))))
      have OW := Lib.hid hown
      clear hx hl1 hl2 hds hy hq hok hc' d0 hown
      go_wp2
      go_loopw [3, 5] (fun out j wr' => ∃ (m : Nat) (A : Option Addr) (cp : Nat), j = .int .i64 m ∧ out = .slice A (frees (ns.take k) ++ frNode k (ds.take m)).length cp ∧ m ≤ q ∧ Below w.heap.size w wr' ∧ wr'.cell? ⟨w.heap.size, 0, none⟩ = some (.slice (some ⟨b, off, none⟩) n c) ∧ w.heap.size + 1 ≤ wr'.heap.size ∧ wr'.ownsRow (w.heap.size + 1) 144 4 (.slice A (frees (ns.take k) ++ frNode k (ds.take m)).length cp) (frees (ns.take k) ++ frNode k (ds.take m)).length ((frees (ns.take k) ++ frNode k (ds.take m)).flatMap frC)) (fun _ j _ => q - (intOf j).toNat)
      case atStart => exact ⟨0, A, cp, rfl, by simp [frNode], by omega, hBl, hbox, hsz, by simpa [frNode] using OW.out⟩
      case round =>
        obtain ⟨m, A, cp, rfl, rfl, hm, hBl', hbox', hsz', hown⟩ := hrel
        have d0 := (hBl'.cell (p := ⟨b, off + k, none⟩) hb).trans X.out.2.2.2.2
        by_cases hml : m < q
        · obtain ⟨hx, hok, hq, hc', _⟩ := X.out
          obtain ⟨⟨g, p⟩, hy⟩ := get_lt (l := ds) (k := m) (by omega)
          obtain ⟨f0, f1⟩ := (hc' m _ hy).keep hb' hBl'
          obtain ⟨g1, g2, p1, p2⟩ := nodeOk_dom hok hy
          obtain ⟨G, rfl⟩ : ∃ G : Nat, g = G := ⟨g.toNat, by omega⟩
          obtain ⟨P, rfl⟩ : ∃ P : Nat, p = P := ⟨p.toNat, by omega⟩
          have hfst := reffirst_any (G : Int)
          have hcl : clamp (G : Int) = G := by unfold clamp; rw [if_neg (by omega), if_neg (by omega)]; rfl
          obtain ⟨M, hM⟩ : ∃ M : Nat, M = 2 ^ G - 1 := ⟨_, rfl⟩
          rw [hcl, ← hM] at hfst
          have HF := Lib.hid hfst
          have NX := Lib.hid (frNode_next (i := k) hy)
          obtain ⟨L, hL⟩ : ∃ L, L = frees (ns.take k) ++ frNode k (ds.take m) := ⟨_, rfl⟩
          have hLl : L.length ≤ 1000 := by
            rw [hL, List.length_append, frNode_len, List.length_take]; omega
          rw [← hL] at hown ⊢
          have HL := Lib.hid hL
          have HM := Lib.hid hM
          have t1 : decide (m < q) = true := by simpa using hml
          have ownc : (Value.slice A L.length cp).ownBlock ≠ some w.heap.size := fun e => by have := (hown.lt _ e).1; omega
          have ownd : (Value.slice A L.length cp).ownBlock ≠ some wr.heap.size := fun e => by have := (hown.lt _ e).2; omega
          have hBs := hBl'.size
          have hB5 := hBl'.alloc hBs (.cells #[.int .i64 (G : Nat), .int .i64 (P : Nat)] 53)
          have bD := heap_alloc_new wr (.cells #[.int .i64 (G : Nat), .int .i64 (P : Nat)] 53)
          have hbx := (((Below.refl wr.heap.size wr).alloc (Nat.le_refl _) (.cells #[.int .i64 (G : Nat), .int .i64 (P : Nat)] 53)).cell (p := ⟨w.heap.size, 0, none⟩) (show w.heap.size < wr.heap.size by omega)).trans hbox'
          have hown5 := hown.alloc (.cells #[.int .i64 (G : Nat), .int .i64 (P : Nat)] 53)
          have hsz5 : wr.heap.size + 1 = (wr.alloc (.cells #[.int .i64 (G : Nat), .int .i64 (P : Nat)] 53)).heap.size := by simp
          clear hx hok hq hc' hy hfst hcl hM hL g1 g2 p1 p2 hown
          go_wp2_with fail
          generalize wr.alloc (.cells #[.int .i64 (G : Nat), .int .i64 (P : Nat)] 53) = W at hB5 bD hbx hown5 hsz5 ⊢
          have x0 : W.cell? ⟨wr.heap.size, 0, none⟩ = some (.int .i64 (G : Nat)) := cell_blk (i := 0) bD rfl
          have x1 : W.cell? ⟨wr.heap.size, 1, none⟩ = some (.int .i64 (P : Nat)) := cell_blk (i := 1) bD rfl
          clear bD
          go_region_held3 (fun w' => w'.cell? ⟨wr.heap.size, 0, none⟩ = some (.int .i64 (G : Nat)) ∧ w'.cell? ⟨wr.heap.size, 1, none⟩ = some (.int .i64 (P : Nat)))
            (go_keep)
            (first
              | (go_at_call 105; (refine (HF.out _).mono ?_); rintro e w' ⟨rfl, rfl⟩)
              | (refine step_append_lies _ (by rfl) _ _ _ (by rfl) (w.heap.size + 1) 144 i0 _ 4 32 Tryz.underlying111 hi hz0 hz1 hz2 rfl (by omega) (.slice A L.length cp) L.length (L.flatMap frC) (by rfl) ((hown5.drew).alloc _)
                  ⟨W.heap.size, 0, none⟩ 1 1 [.int .i64 (k : Nat), .int .i64 (m : Nat), .int .u64 (M : Nat), .int .i64 (P : Nat)] (by rfl) (by rfl) (World.news_of_block (cs := #[.int .i64 (k : Nat), .int .i64 (m : Nat), .int .u64 (M : Nat), .int .i64 (P : Nat)]) (t := 144) (fr := (0, 0)) (heap_alloc_new W.drew _)) (by simp [Value.oneCell'])
                  (by omega) (by unfold maxLen; omega) (by omega) (by simp; omega) (W.heap.size + 1) (by simp) ?_
                 intro gg cap' w3 hown3 hgrow hat hlt3
                 have y0 : w3.cell? ⟨wr.heap.size, 0, none⟩ = some (.int .i64 (G : Nat)) := (hgrow.cell_far ⟨wr.heap.size, 0, none⟩ (by simp; omega) (Ne.symm ownd)).trans (by go_simp)
                 have y1 : w3.cell? ⟨wr.heap.size, 1, none⟩ = some (.int .i64 (P : Nat)) := (hgrow.cell_far ⟨wr.heap.size, 1, none⟩ (by simp; omega) (Ne.symm ownd)).trans (by go_simp)))
          go_wp2
          have eL : frees (ns.take k) ++ frNode k (ds.take (m + 1)) = L ++ [frAt k m (G, P)] := by rw [NX.out, HL.out, List.append_assoc]
          have hB6 : Below w.heap.size w w3 := ((hB5.drew).alloc (by have := hB5.size; simp; omega) _).grown hgrow (by have := hB5.size; simp; omega) (fun i e => by have := (hown5.lt i e).1; omega)
          have hbx6 : w3.cell? ⟨w.heap.size, 0, none⟩ = some (.slice (some ⟨b, off, none⟩) n c) := (hgrow.cell_far ⟨w.heap.size, 0, none⟩ (by simp; omega) (Ne.symm ownc)).trans ((((Below.refl W.heap.size W).drew.alloc (Nat.le_refl _) _).cell (p := ⟨w.heap.size, 0, none⟩) (show w.heap.size < W.heap.size by omega)).trans hbx)
          have hown6 : w3.ownsRow (w.heap.size + 1) 144 4 (.slice (some ⟨gg, 0, none⟩) (L ++ [frAt k m (G, P)]).length cap') (L ++ [frAt k m (G, P)]).length ((L ++ [frAt k m (G, P)]).flatMap frC) := by
            rw [List.length_append, List.flatMap_append]
            rw [HM.out] at hown3
            simpa [frC, frAt] using hown3
          have hsz6 := hgrow.size
          simp at hsz6
          go_roundw
          case rel => exact ⟨m + 1, some ⟨gg, 0, none⟩, cap', by go_num, by rw [eL]; simp, by omega, hB6, hbx6, by omega, by rw [eL]; exact hown6⟩
          case measure => simp [intOf]; omega
        · obtain rfl : m = q := by omega
          obtain ⟨hx, hok, hq, hc', _⟩ := X.out
          rw [← hq, List.take_length, ← frees_next hx] at hown
          have e : (frees (ns.take k) ++ frNode k (ds.take m)).length = (frees (ns.take (k + 1))).length := by rw [← hq, List.take_length, ← frees_next hx]
          rw [e]
          have OW := Lib.hid hown
          clear hx hok hq hc' hml hown e
          go_wp2
          go_roundw
          case rel => exact ⟨k + 1, A, cp, by go_num, rfl, by omega, hBl', hbox', hsz', OW.out⟩
          case measure => simp [intOf]; omega
    · obtain rfl : k = n := by omega
      have e : ns.take k = ns := by rw [← Q.out.1]; exact List.take_length
      rw [e] at hown ⊢
      have OW := Lib.hid hown
      clear hlt hown
      go_wp2
      go_ret
      exact ⟨_, rfl, OW.out, hBl⟩
end Go.Proofs.YtgpfmlidchogcaaGreat
