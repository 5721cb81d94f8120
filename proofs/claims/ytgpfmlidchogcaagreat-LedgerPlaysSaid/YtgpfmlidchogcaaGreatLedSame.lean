/- Slots, and holds, held against one another by the document. -/
import Derived.Deep.QuietTactic
import Derived.BigQuiet
import Derived.Laws.StructEq
import Derived.WalkKit
import Derived.Deep.RegionHeld3
import Derived.Test.YtgpfmlidchogcaaGreatLedCallz
set_option maxRecDepth 100000
set_option linter.unusedVariables false
namespace Go.Proofs.YtgpfmlidchogcaaGreat
open Go.RowKit

theorem slot_neq (a b m c : Int) (W : World) : (binOp .neq 41 (.agg #[.int .i64 a, .int .i64 b, .int .u64 m, .int .i64 c]) (.agg #[.int .i64 a, .int .i64 b, .int .u64 m, .int .i64 c])).run Tryz.prog W = .ok (.bool false) W := by go_simp
set_option maxRecDepth 100000 in
set_option maxHeartbeats 1000000 in
theorem same_sl (A1 A2 : Option Addr) (c1 c2 B : Nat) (l : List PM.Sl) (w : World) (h1 : Slots w B A1 l) (h2 : Slots w B A2 l) (hn : l.length ≤ 500000) :
    Calls Tryz.prog 63 #[.slice A1 l.length c1, .slice A2 l.length c2] w fun e w' => e = .returned (.bool true) ∧ Below w.heap.size w w' := by
  obtain ⟨q, hq⟩ : ∃ q, l.length = q := ⟨_, rfl⟩
  have H := Lib.hid (And.intro h1 (And.intro h2 hq))
  rw [hq] at hn ⊢
  clear h1 h2 hq
  have t0 : ((q : Int) != (q : Int)) = false := by simp
  go_enter Tryz.func63, Tryz.ntmps63
  go_wp2
  go_loopw [5] (fun i wr => ∃ k : Nat, i = .int .i64 k ∧ k ≤ q ∧ Hid (∃ m, wr = w.drewN m)) (fun i _ => q - (intOf i).toNat)
  case atStart => exact ⟨0, rfl, by omega, Lib.hid ⟨0, rfl⟩⟩
  case round =>
    obtain ⟨k, rfl, hk, hW⟩ := hrel
    by_cases hlt : k < q
    · obtain ⟨f, hx⟩ := get_lt (l := l) (k := k) (by rw [H.out.2.2]; exact hlt)
      obtain ⟨b, off, rfl, hb, hc⟩ := H.out.1.at_ hx
      obtain ⟨b', off', rfl, hb', hc'⟩ := H.out.2.1.at_ hx
      have hcell : ∀ p : Addr, wr.cell? p = w.cell? p := fun p => by obtain ⟨m, e⟩ := hW.out; rw [e]; rfl
      obtain ⟨f0, f1, f2, f3⟩ := hc k f hx
      obtain ⟨g0, g1, g2, g3⟩ := hc' k f hx
      rw [← hcell] at f0 f1 f2 f3 g0 g1 g2 g3
      have j1 : (k : Int) < (q : Int) := by omega
      have t1 : decide (k < q) = true := decide_eq_true hlt
      have hne := fun W => slot_neq f.n f.d f.m f.c W
      clear hc hc' hx hcell hb hb'
      go_wp2_with fail
      go_quiet (fail)
      have hW2 : Hid (∃ m, wr.drewN nq = w.drewN m) := Lib.hid (by obtain ⟨m, e⟩ := hW.out; exact ⟨m + nq, by rw [e, World.drewN_drewN]⟩)
      clear f0 f1 f2 f3 g0 g1 g2 g3 hne hW
      generalize wr.drewN nq = W2 at hW2 ⊢
      go_wp2
      go_roundw
      case rel => exact ⟨k + 1, by go_num, by omega, hW2⟩
      case measure => simp [intOf]; omega
    · obtain rfl : k = q := by omega
      have HB : Hid (Below w.heap.size w wr) := Lib.hid (by obtain ⟨m, e⟩ := hW.out; rw [e]; exact ⟨rfl, rfl, rfl, Nat.le_refl _, fun _ _ => rfl⟩)
      have t1 : decide (k < k) = false := decide_eq_false (by omega)
      clear hlt hW
      go_wp2
      go_ret
      exact ⟨rfl, HB.out⟩
set_option maxHeartbeats 4000000 in
theorem same_holds (A A' : Option Addr) (c c' : Nat) (G G' : Nat → Prop) (hs : List Hd) (w : World) (h : HL w G A hs) (h' : HL w G' A' hs) (hn : hs.length ≤ 100000) (hk : ∀ g ∈ hs, g.sl.length ≤ 16) :
    Calls Tryz.prog 22 #[.slice A hs.length c, .slice A' hs.length c'] w fun e w' => e = .returned (.bool true) ∧ Below w.heap.size w w' := by
  obtain ⟨q, hq⟩ : ∃ q, hs.length = q := ⟨_, rfl⟩
  have H := Lib.hid (And.intro h (And.intro h' (And.intro hq hk)))
  rw [hq] at hn ⊢
  clear h h' hq hk
  have t0 : ((q : Int) != (q : Int)) = false := by simp
  go_enter Tryz.func22, Tryz.ntmps22
  go_wp2
  go_loopw [5] (fun i wr => ∃ k : Nat, i = .int .i64 k ∧ k ≤ q ∧ Hid (Below w.heap.size w wr)) (fun i _ => q - (intOf i).toNat)
  case atStart => exact ⟨0, rfl, by omega, Lib.hid (Below.refl _ _)⟩
  case round =>
    obtain ⟨k, rfl, hk, hW⟩ := hrel
    by_cases hlt : k < q
    · obtain ⟨h1, h2, hq, hsl⟩ := H.out
      obtain ⟨L, e1, l2, l3, _, _⟩ := h1.keep hW.out
      obtain ⟨L', e1', l2', l3', _, _⟩ := h2.keep hW.out
      obtain ⟨x, hx⟩ := get_lt (l := L) (k := k) (by have := congrArg List.length e1; simp at this; omega)
      obtain ⟨y, hy⟩ := get_lt (l := L') (k := k) (by have := congrArg List.length e1'; simp at this; omega)
      have hxy : x.h = y.h := by
        have a1 : (L.map (·.h))[k]? = some x.h := by rw [List.getElem?_map, hx]; rfl
        have a2 : (L'.map (·.h))[k]? = some y.h := by rw [List.getElem?_map, hy]; rfl
        rw [e1] at a1; rw [e1'] at a2; rw [a1] at a2; exact Option.some.inj a2
      have hxm : x.h ∈ hs := by rw [← e1]; exact List.mem_map.2 ⟨x, List.mem_of_getElem? hx, rfl⟩
      obtain ⟨b, off, rfl, hb, hc⟩ := l2.at_ hx
      obtain ⟨b', off', rfl, hb', hc'⟩ := l2'.at_ hy
      have f0 := hc k x hx 0 _ rfl
      have f1 := hc k x hx 1 _ rfl
      have f2 := hc k x hx 2 _ rfl
      have f3 := hc k x hx 3 _ rfl
      have f4 := hc k x hx 4 _ rfl
      have g0 := hc' k y hy 0 _ rfl
      have g1 := hc' k y hy 1 _ rfl
      have g2 := hc' k y hy 2 _ rfl
      have g3 := hc' k y hy 3 _ rfl
      have g4 := hc' k y hy 4 _ rfl
      simp only [hsV] at f4 g4
      rw [Nat.add_zero] at f0 g0
      rw [← hxy] at g0 g1 g2 g3 g4
      have hS := same_sl x.A y.A x.c y.c wr.heap.size x.h.sl
      obtain ⟨m, hm⟩ : ∃ m, x.h.sl.length = m := ⟨_, rfl⟩
      have hm16 : m ≤ 16 := by rw [← hm]; exact hsl _ hxm
      rw [hm] at f4 g4 hS
      have hSl := l3 x (List.mem_of_getElem? hx)
      have hSl' := l3' y (List.mem_of_getElem? hy)
      rw [← hxy] at hSl'
      have HS := Lib.hid (hS wr.drew (Slots.keep hSl (Below.refl _ _).drew (Nat.le_refl _)) (Slots.keep hSl' (Below.refl _ _).drew (Nat.le_refl _)) (by omega))
      obtain ⟨xi, e3⟩ : ∃ v, v = x.h.id := ⟨_, rfl⟩
      obtain ⟨xq, e4⟩ : ∃ v, v = x.h.q := ⟨_, rfl⟩
      obtain ⟨xu, e5⟩ : ∃ v, v = x.h.un := ⟨_, rfl⟩
      obtain ⟨xr, e6⟩ : ∃ v, v = x.h.run := ⟨_, rfl⟩
      obtain ⟨xA, e7⟩ : ∃ v, v = x.A := ⟨_, rfl⟩
      obtain ⟨yA, e8⟩ : ∃ v, v = y.A := ⟨_, rfl⟩
      obtain ⟨xc, e9⟩ : ∃ v, v = x.c := ⟨_, rfl⟩
      obtain ⟨yc, e10⟩ : ∃ v, v = y.c := ⟨_, rfl⟩
      rw [← e3] at f0 g0
      rw [← e4] at f1 g1
      rw [← e5] at f2 g2
      rw [← e6] at f3 g3
      rw [← e7, ← e9] at f4
      rw [← e8, ← e10] at g4
      rw [← e7, ← e8, ← e9, ← e10] at HS
      have j1 : (k : Int) < (q : Int) := by omega
      have t1 : decide (k < q) = true := decide_eq_true hlt
      have n0 : (xi != xi) = false := by simp
      have n1 : (xq != xq) = false := by simp
      have n2 : (xu != xu) = false := by simp
      have n3 : (xr != xr) = false := by simp
      clear hc hc' hx hy hxy hxm e1 e1' l2 l2' l3 l3' h1 h2 hq hsl hm hSl hSl' hS e3 e4 e5 e6 e7 e8 e9 e10
      go_wp2
      go_region_held3 (fun w' => w'.cell? ⟨b, off + k * 5, none⟩ = some (.int .i64 xi) ∧ w'.cell? ⟨b, off + k * 5 + 1, none⟩ = some (.int .i64 xq) ∧ w'.cell? ⟨b, off + k * 5 + 2, none⟩ = some (.int .i64 xu) ∧ w'.cell? ⟨b, off + k * 5 + 3, none⟩ = some (.bool xr) ∧ w'.cell? ⟨b, off + k * 5 + 4, none⟩ = some (.slice xA m xc)
         ∧ w'.cell? ⟨b', off' + k * 5, none⟩ = some (.int .i64 xi) ∧ w'.cell? ⟨b', off' + k * 5 + 1, none⟩ = some (.int .i64 xq) ∧ w'.cell? ⟨b', off' + k * 5 + 2, none⟩ = some (.int .i64 xu) ∧ w'.cell? ⟨b', off' + k * 5 + 3, none⟩ = some (.bool xr) ∧ w'.cell? ⟨b', off' + k * 5 + 4, none⟩ = some (.slice yA m yc))
        (go_keep)
        (first
          | (go_at_call 63; refine HS.out.mono ?_; rintro e w2 ⟨rfl, hb2⟩; have hB2 : Below wr.heap.size wr w2 := below_step (Below.refl wr.heap.size wr).drew hb2; have v0 := (hB2.cell (p := ⟨b, off + k * 5, none⟩) hb).trans f0; have v1 := (hB2.cell (p := ⟨b, off + k * 5 + 1, none⟩) hb).trans f1; have v2 := (hB2.cell (p := ⟨b, off + k * 5 + 2, none⟩) hb).trans f2; have v3 := (hB2.cell (p := ⟨b, off + k * 5 + 3, none⟩) hb).trans f3; have v4 := (hB2.cell (p := ⟨b, off + k * 5 + 4, none⟩) hb).trans f4; have u0 := (hB2.cell (p := ⟨b', off' + k * 5, none⟩) hb').trans g0; have u1 := (hB2.cell (p := ⟨b', off' + k * 5 + 1, none⟩) hb').trans g1; have u2 := (hB2.cell (p := ⟨b', off' + k * 5 + 2, none⟩) hb').trans g2; have u3 := (hB2.cell (p := ⟨b', off' + k * 5 + 3, none⟩) hb').trans g3; have u4 := (hB2.cell (p := ⟨b', off' + k * 5 + 4, none⟩) hb').trans g4; have N := Lib.hid (hW.out.trans (hB2.mono hW.out.size)); clear hB2 hb2))
      clear v0 v1 v2 v3 v4 u0 u1 u2 u3 u4 f0 f1 f2 f3 f4 g0 g1 g2 g3 g4 hW
      go_wp2
      go_roundw
      case rel => exact ⟨k + 1, by go_num, by omega, N⟩
      case measure => simp [intOf]; omega
    · obtain rfl : k = q := by omega
      have t1 : decide (k < k) = false := decide_eq_false (by omega)
      clear hlt
      go_wp2
      go_ret
      exact ⟨rfl, hW.out⟩
end Go.Proofs.YtgpfmlidchogcaaGreat
