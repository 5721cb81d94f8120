/- take: numbers cut off the front of bytes, into their places. -/
import Derived.RegionTactic
import Derived.BigRegion
import Derived.Test.YtplekkpfpidebaaWirePut
set_option linter.unusedVariables false
namespace Go.Proofs.Ytplekkpfpidebaa
open Go.RowKit
attribute [local go_sem] bs_size bs_get bs_cut bs_app bs_list
def setF : Array Value → List FldP → List Nat → Array Value
  | cs, x :: fs, v :: vs => setF (cs.setIfInBounds x.2.1 (.int .i64 (v : Nat))) fs vs
  | cs, _, _ => cs
abbrev widF (fs : List FldP) : List Nat := fs.map (·.2.2)
theorem setF_size : ∀ (fs : List FldP) (vs : List Nat) (cs : Array Value), (setF cs fs vs).size = cs.size
  | [], _, _ => by simp [setF]
  | _ :: _, [], _ => by simp [setF]
  | x :: fs, v :: vs, cs => by simp [setF, setF_size fs vs]
theorem setF_next : ∀ (fs : List FldP) (vs : List Nat) (cs : Array Value) (k : Nat) (x : FldP) (v : Nat), fs[k]? = some x → vs[k]? = some v → setF cs (fs.take (k + 1)) (vs.take (k + 1)) = (setF cs (fs.take k) (vs.take k)).setIfInBounds x.2.1 (.int .i64 (v : Nat))
  | [], _, _, _, _, _, h, _ => by simp at h
  | _ :: _, [], _, _, _, _, _, h => by simp at h
  | y :: fs, u :: vs, cs, 0, x, v, h1, h2 => by simp at h1 h2; subst h1 h2; simp [setF]
  | y :: fs, u :: vs, cs, k + 1, x, v, h1, h2 => by
    simp only [List.take_succ_cons, setF]
    exact setF_next fs vs _ k x v (by simpa using h1) (by simpa using h2)
theorem cuts_get : ∀ (ws : List Nat) (b : List UInt8) (k : Nat) (c : Nat), ws[k]? = some c → (WM.cuts ws b)[k]? = some (WM.num ((b.drop (ws.take k).sum).take c))
  | [], _, _, _, h => by simp at h
  | w :: ws, b, 0, c, h => by simp at h; subst h; simp [WM.cuts]
  | w :: ws, b, k + 1, c, h => by
    simp only [WM.cuts, List.getElem?_cons_succ, List.take_succ_cons, List.sum_cons]
    rw [cuts_get ws _ k c (by simpa using h), List.drop_drop]
theorem sum_next {ws : List Nat} {k c : Nat} (h : ws[k]? = some c) : (ws.take (k + 1)).sum = (ws.take k).sum + c := by rw [take_next h]; simp
theorem sum_take_le (ws : List Nat) (k : Nat) : (ws.take k).sum ≤ ws.sum := by
  have h : ws.sum = (ws.take k).sum + (ws.drop k).sum := by rw [← List.sum_append, List.take_append_drop]
  omega
theorem or_byte {p b : Nat} (hb : b < 256) : p * 256 ||| b = p * 256 + b := by
  have h : ∀ i a : Nat, b < 2 ^ i → 2 ^ i * a + b = 2 ^ i * a ||| b := fun i a h => Nat.two_pow_add_eq_or_of_lt h a
  have h1 := h 8 p (Nat.lt_of_lt_of_le hb (by decide))
  rw [show (2 : Nat) ^ 8 = 256 from rfl] at h1
  rw [Nat.mul_comm p 256]; exact h1.symm
theorem or_i64 {p b : Nat} (hp : p < 65536) (hb : b < 256) : bits .or .i64 ((p : Int) * 256) b = ((p * 256 + b : Nat) : Int) := by
  have h1 : (BitVec.ofInt 64 ((p : Int) * 256)).toNat = p * 256 := by
    rw [show (p : Int) * 256 = ((p * 256 : Nat) : Int) by omega, BitVec.ofInt_natCast, BitVec.toNat_ofNat]; exact Nat.mod_eq_of_lt (by omega)
  have h2 : (BitVec.ofInt 64 (b : Int)).toNat = b := by
    rw [BitVec.ofInt_natCast, BitVec.toNat_ofNat]; exact Nat.mod_eq_of_lt (by omega)
  show IntKind.i64.wrap ((BitVec.ofInt 64 ((p : Int) * 256) ||| BitVec.ofInt 64 (b : Int)).toNat : Int) = _
  rw [BitVec.toNat_or, h1, h2, or_byte hb]
  exact IntWalk.i64_in _ (by omega)
set_option maxRecDepth 100000 in
set_option maxHeartbeats 4000000 in
theorem take_any (p : Nat) (cs : Array Value) (ty : TypeId) (l : List UInt8) (hl : l.length ≤ 1000000) (w : World) (hp : w.heap[p]? = some (.cells cs ty (0, 0)))
    (A : Option Addr) (c : Nat) (fs : List FldP) (hF : Els fpC 2 w w.heap.size A fs) (hA : ∀ (b off k : Nat) (x : FldP), A = some ⟨b, off, none⟩ → fs[k]? = some x → b ≠ p) (hw : ∀ x ∈ fs, (x.2.2 = 1 ∨ x.2.2 = 2 ∨ x.2.2 = 3) ∧ x.1 = p ∧ x.2.1 < cs.size) (hlen : fs.length ≤ 8) :
    Calls Try.prog 28 #[.string (bs l), .slice A fs.length c] w fun e w' => ((widF fs).sum ≤ l.length → e = .returned (.tuple #[.string (bs (l.drop (widF fs).sum)), .bool true]) ∧ Hid (w'.heap[p]? = some (.cells (setF cs fs (WM.cuts (widF fs) l)) ty (0, 0)))) ∧ (l.length < (widF fs).sum → e = .returned (.tuple #[.string (bs []), .bool false]) ∧ Hid (∃ k, w'.heap[p]? = some (.cells (setF cs (fs.take k) ((WM.cuts (widF fs) l).take k)) ty (0, 0)))) ∧ Hid (Foot (· = p) w w') := by
  obtain ⟨n, hn⟩ : ∃ n, n = fs.length := ⟨_, rfl⟩
  rw [← hn] at hlen ⊢
  have HF := Lib.hid hF
  have HA := Lib.hid hA
  have Hn := Lib.hid hn
  have HW := Lib.hid hw
  have HP := Lib.hid hp
  have hpl := blk_lt hp
  clear hF hn hw hA hp
  go_enter Try.func28, Try.ntmps28
  go_wp2
  go_loopw [0, 12] (fun s i wr => ∃ (k : Nat) (r : List UInt8), i = .int .i64 k ∧ s = .string (bs r) ∧ k ≤ n ∧ Hid (r = l.drop ((widF fs).take k).sum ∧ ((widF fs).take k).sum ≤ l.length) ∧ r.length ≤ 1000000 ∧ Hid (wr.heap[p]? = some (.cells (setF cs (fs.take k) ((WM.cuts (widF fs) l).take k)) ty (0, 0))) ∧ Hid (Foot (· = p) w wr)) (fun _ i _ => n - (intOf i).toNat)
  case atStart => exact ⟨0, l, rfl, rfl, Nat.zero_le _, Lib.hid (by simp), hl, Lib.hid (by simpa [setF] using HP.out), Lib.hid (Foot.refl _ _)⟩
  case round =>
    obtain ⟨k, r, rfl, rfl, hk, hr, hrl, hP, hFt⟩ := hrel
    have hsz := hFt.out.size
    obtain ⟨m, hm⟩ : ∃ m, m = r.length := ⟨_, rfl⟩
    have hs : (bs r).size = m := by rw [bs_size, hm]
    have Hm := Lib.hid hm
    rw [← hm] at hrl
    clear hm
    by_cases hlt : k < n
    · obtain ⟨x, hx⟩ := get_lt (l := fs) (k := k) (by rw [← Hn.out]; exact hlt)
      obtain ⟨b, off, rfl, hb, hc⟩ := HF.out.at_ hx
      have hnF := HA.out b off k x rfl hx
      obtain ⟨hxw, hxl, hxF⟩ := HW.out x (List.mem_of_getElem? hx)
      have f0 := (hFt.out.cell (p := ⟨b, off + k * 2, none⟩) hb hnF).trans (hc k x hx 0 _ rfl)
      have f1 := (hFt.out.cell (p := ⟨b, off + k * 2 + 1, none⟩) hb hnF).trans (hc k x hx 1 _ rfl)
      obtain ⟨x0, x1, W⟩ := x
      simp only at f0 f1 hxw hxl hxF
      subst x0
      have Hx := Lib.hid hx
      have Hxw := Lib.hid hxw
      have hW3 : W ≤ 3 := by omega
      have hsb : b < wr.heap.size := by omega
      have hsp : p < wr.heap.size := by omega
      have hwid : Hid ((widF fs)[k]? = some W) := Lib.hid (by rw [List.getElem?_map, hx]; rfl)
      clear hx hc hb hxw
      by_cases hmw : m < W
      · have hsh : Hid (l.length < (widF fs).sum) := Lib.hid (by
          have h1 := sum_next hwid.out
          have h2 := sum_take_le (widF fs) (k + 1)
          have h3 := hr.out.1
          have h4 := Hm.out
          rw [h3, List.length_drop] at h4
          omega)
        go_wp2_with fail
        go_ret2
        refine ⟨fun h => absurd hsh.out (by omega), fun _ => ⟨rfl, Lib.hid ⟨k, (Below.heap_alloc _ _ _ hsp).trans hP.out⟩⟩, Lib.hid (hFt.out.alloc _)⟩
      · go_wp2_with fail
        obtain ⟨w1, hw1⟩ : ∃ w1, w1 = wr.alloc (.cells #[.pointer (some ⟨p, x1, none⟩), .int .i64 W] 92) := ⟨_, rfl⟩
        obtain ⟨q, hq⟩ : ∃ q, q = wr.heap.size := ⟨_, rfl⟩
        rw [← hw1, ← hq]
        have HP1 : Hid (w1.heap[p]? = some (.cells (setF cs (fs.take k) ((WM.cuts (widF fs) l).take k)) ty (0, 0))) := Lib.hid (by rw [hw1]; exact (Below.heap_alloc _ _ _ hsp).trans hP.out)
        have HQ1 : Hid (w1.heap[q]? = some (.cells #[.pointer (some ⟨p, x1, none⟩), .int .i64 W] 92 (0, 0))) := Lib.hid (by rw [hw1, hq]; exact heap_alloc_new _ _)
        have HF1 : Hid (Foot (· = p) w w1) := Lib.hid (by rw [hw1]; exact hFt.out.alloc _)
        obtain ⟨z0, z1⟩ := cells2 HQ1.out
        have hqp : q ≠ p := by omega
        have hpq : p ≠ q := by omega
        clear hw1 hq hP hFt f0 f1 hsb
        go_loop [8, 23] (fun s i => ∃ (j v : Nat), i = .int .i64 j ∧ s = .int .i64 v ∧ j ≤ W ∧ Hid (v = WM.num (r.take j))) (fun _ i => W - (intOf i).toNat)
        case atStart => exact ⟨0, 0, rfl, rfl, Nat.zero_le _, Lib.hid rfl⟩
        case round =>
          obtain ⟨j, v, rfl, rfl, hj, hv⟩ := hrel
          have hv3 : v < 16777216 := by rw [hv.out]; exact num_le 3 (by simp; omega)
          by_cases hjw : j < W
          · obtain ⟨d, hd⟩ : ∃ d, d = byt r j := ⟨_, rfl⟩
            have hd2 : d < 256 := by rw [hd]; exact byt_lt r j
            have hv2 : v < 65536 := by rw [hv.out]; exact num_le 2 (by simp; omega)
            have Hp : Hid (v * 256 + d = WM.num (r.take (j + 1))) := Lib.hid (by rw [hv.out, hd, num_take (by rw [← Hm.out]; omega)])
            have hd3 := hd.symm
            clear hv hd
            have hor := or_i64 hv2 hd2
            go_wp2_with fail
            exact ⟨⟨j + 1, v * 256 + d, by go_num, rfl, by omega, Hp⟩, by simp [intOf]; omega⟩
          · obtain rfl : j = W := by omega
            obtain ⟨ov, hov⟩ : ∃ ov, (setF cs (fs.take k) ((WM.cuts (widF fs) l).take k))[x1]? = some ov := ⟨_, Array.getElem?_eq_getElem (by rw [setF_size]; exact hxF)⟩
            have y0 := cell_blk (i := x1) HP1.out hov
            have y1 : w1.frozen? ⟨p, x1, none⟩ = false := frozen_blk HP1.out
            obtain ⟨s, hs2⟩ : ∃ s, s = r.drop j := ⟨_, rfl⟩
            have hx2 : (bs r).extract j m = bs s := by rw [bs_cut, hs2]; congr 1; rw [List.take_of_length_le]; have := Hm.out; simp; omega
            have hjm : j ≤ m := by omega
            clear hov
            go_wp2_with fail
            go_region
            obtain ⟨w2, hw2⟩ : ∃ w2, w2 = (w1.setCell ⟨p, x1, none⟩ (.int .i64 v)).drew := ⟨_, rfl⟩
            rw [← hw2]
            have HP2 : Hid (w2.heap[p]? = some (.cells (setF cs (fs.take (k + 1)) ((WM.cuts (widF fs) l).take (k + 1))) ty (0, 0))) := Lib.hid (by
              have h9 := cuts_get (widF fs) l k j hwid.out
              rw [← hr.out.1, ← hv.out] at h9
              rw [hw2, setF_next fs _ cs k _ _ Hx.out h9]
              exact blk_put _ HP1.out)
            have HF2 : Hid (Foot (· = p) w w2) := Lib.hid (by rw [hw2]; exact (HF1.out.setCell (p := ⟨p, x1, none⟩) (.inl rfl) _).drew)
            have HR2 : Hid (r.drop j = l.drop ((widF fs).take (k + 1)).sum ∧ ((widF fs).take (k + 1)).sum ≤ l.length) := Lib.hid (by
              have h1 := sum_next hwid.out
              have h2 := hr.out
              have h3 := Hm.out
              rw [h1]
              refine ⟨by rw [h2.1, List.drop_drop], ?_⟩
              rw [h2.1, List.length_drop] at h3
              omega)
            clear hw2 HP1 HF1 hr
            go_wp2_with fail
            go_roundw
            case rel => exact ⟨k + 1, r.drop j, by go_num, rfl, by omega, HR2, by have := Hm.out; simp; omega, HP2, HF2⟩
            case measure => simp [intOf]; omega
    · obtain rfl : k = n := by omega
      have hk1 : (widF fs).take k = widF fs := List.take_of_length_le (by have := Hn.out; simp; omega)
      have hk2 : fs.take k = fs := List.take_of_length_le (by have := Hn.out; omega)
      have hk3 : (WM.cuts (widF fs) l).take k = WM.cuts (widF fs) l := List.take_of_length_le (by have := Hn.out; rw [WM.cuts_len]; simp; omega)
      have HR : Hid (r = l.drop (widF fs).sum ∧ (widF fs).sum ≤ l.length) := Lib.hid (by have := hr.out; rwa [hk1] at this)
      have HP2 : Hid (wr.heap[p]? = some (.cells (setF cs fs (WM.cuts (widF fs) l)) ty (0, 0))) := Lib.hid (by have := hP.out; rwa [hk2, hk3] at this)
      clear hk1 hk2 hk3 hr hP
      obtain ⟨hr1, hr2⟩ := HR.out
      have Hr2 := Lib.hid hr2
      subst hr1
      clear HR hr2
      go_wp2_with fail
      go_ret2
      exact ⟨fun _ => ⟨rfl, HP2⟩, fun h => absurd Hr2.out (by omega), hFt⟩
end Go.Proofs.Ytplekkpfpidebaa
