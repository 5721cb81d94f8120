/- put: the fields' bytes behind a text. -/
import Derived.Test.YtplekkpfpidebaaWireStr
import Derived.Test.YtplekkpfpidebaaElsApp
import Derived.Test.YtplekkpfpidebaaProg
import Derived.BigQuiet
import Derived.OwnWalk
import Derived.Deep.AppendLies
set_option linter.unusedVariables false
namespace Go.Proofs.Ytplekkpfpidebaa
open Go.RowKit
attribute [local go_sem] bs_size bs_get bs_cut bs_app bs_list
theorem own_stay {W W' : World} {base : Nat} {e : TypeId} {size : Nat} {v : Value} {n : Nat} {xs : List Value} (h : W.ownsRow base e size v n xs) (hb : ∀ i, v.ownBlock = some i → W'.heap[i]? = W.heap[i]?) : W'.ownsRow base e size v n xs := by
  obtain ⟨h0, h1⟩ := h
  refine ⟨h0, ?_⟩
  rcases h1 with h1 | ⟨g, cap, cur, rfl, h2, h3, h4⟩
  · exact .inl h1
  · exact .inr ⟨g, cap, cur, rfl, h2, (hb g rfl).trans h3, h4⟩
theorem own_alloc {W : World} {base : Nat} {e : TypeId} {size : Nat} {v : Value} {n : Nat} {xs : List Value} (h : W.ownsRow base e size v n xs) (o : Obj) : (W.alloc o).ownsRow base e size v n xs :=
  own_stay h fun i hi => Below.heap_alloc _ _ _ (h.lt i hi).2
theorem info_u8 : (Try.prog.info? 5).map (fun i => (i.zero, i.size, i.bytes)) = some (some (.int .u8 0), 1, 1) := by kernel_rfl
/-- The numbers that fields lead to. -/
def NumsAt (w : World) (fs : List FldP) (vs : List Int) : Prop := fs.length = vs.length ∧ ∀ (k : Nat) (x : FldP) (v : Int), fs[k]? = some x → vs[k]? = some v → w.cell? ⟨x.1, x.2.1, none⟩ = some (.int .i64 v) ∧ I64 v
def fitF (fs : List FldP) (vs : List Int) : Bool := (vs.zip fs).all fun x => WM.fit x.1 x.2.2.2
def encF (fs : List FldP) (vs : List Int) : List UInt8 := (vs.zip fs).flatMap fun x => WM.enc x.1.toNat x.2.2.2
theorem NumsAt.next {w : World} {fs : List FldP} {vs : List Int} (h : NumsAt w fs vs) {k : Nat} {x : FldP} (hx : fs[k]? = some x) : ∃ v, vs[k]? = some v ∧ w.cell? ⟨x.1, x.2.1, none⟩ = some (.int .i64 v) ∧ I64 v := by
  have hk := (List.getElem?_eq_some_iff.1 hx).1
  have h2 : vs[k]? = some (vs[k]'(by rw [← h.1]; exact hk)) := List.getElem?_eq_getElem _
  exact ⟨_, h2, h.2 k x _ hx h2⟩
theorem zip_take {fs : List FldP} {vs : List Int} {k : Nat} {x : FldP} {v : Int} (hx : fs[k]? = some x) (hv : vs[k]? = some v) : (vs.take (k + 1)).zip (fs.take (k + 1)) = (vs.take k).zip (fs.take k) ++ [(v, x)] := by
  have h1 := (List.getElem?_eq_some_iff.1 hx).1
  have h2 := (List.getElem?_eq_some_iff.1 hv).1
  rw [take_next hx, take_next hv, List.zip_append (by simp; omega)]
  rfl
theorem fitF_next {fs : List FldP} {vs : List Int} {k : Nat} {x : FldP} {v : Int} (hx : fs[k]? = some x) (hv : vs[k]? = some v) : fitF (fs.take (k + 1)) (vs.take (k + 1)) = (fitF (fs.take k) (vs.take k) && WM.fit v x.2.2) := by
  unfold fitF; rw [zip_take hx hv]; simp
theorem encF_next {fs : List FldP} {vs : List Int} {k : Nat} {x : FldP} {v : Int} (hx : fs[k]? = some x) (hv : vs[k]? = some v) : encF (fs.take (k + 1)) (vs.take (k + 1)) = encF (fs.take k) (vs.take k) ++ WM.enc v.toNat x.2.2 := by
  unfold encF; rw [zip_take hx hv]; simp
theorem fitF_no {fs : List FldP} {vs : List Int} {k : Nat} {x : FldP} {v : Int} (hx : fs[k]? = some x) (hv : vs[k]? = some v) (h : WM.fit v x.2.2 = false) : fitF fs vs = false := by
  unfold fitF
  refine List.all_eq_false.2 ⟨(v, x), List.mem_iff_getElem?.2 ⟨k, List.getElem?_zip_eq_some.2 ⟨hv, hx⟩⟩, by simpa using h⟩
theorem encF_len {fs : List FldP} {vs : List Int} (h : ∀ x ∈ fs, x.2.2 ≤ 3) : (encF fs vs).length ≤ fs.length * 3 := by
  unfold encF
  induction fs generalizing vs with
  | nil => simp
  | cons x l ih =>
    cases vs with
    | nil => simp
    | cons v vs =>
      have h1 := h x (by simp)
      have h2 := ih (vs := vs) (fun y hy => h y (by simp [hy]))
      simp only [List.zip_cons_cons, List.flatMap_cons, List.length_append, WM.enc_len, List.length_cons]
      omega
theorem u_fit {y : Int} {W : Nat} (hy : I64 y) (hW : W = 1 ∨ W = 2 ∨ W = 3) : ∃ u : Nat, IntKind.u64.wrap y = u ∧ u < 18446744073709551616 ∧ ((u : Int) / 2 ^ (8 * W) != 0) = !(WM.fit y W) ∧ (WM.fit y W = true → u = y.toNat) := by
  have e : IntKind.u64.wrap y = y % 18446744073709551616 := IntKind.wrap_u64 y
  obtain ⟨h1, h2⟩ := hy
  refine ⟨(y % 18446744073709551616).toNat, by omega, by omega, ?_, ?_⟩
  · rw [Bool.eq_iff_iff]
    unfold WM.fit
    rcases hW with rfl | rfl | rfl <;> simp <;> omega
  · intro h
    obtain ⟨h3, h4⟩ := WM.fit_iff.1 h
    omega
theorem enc_more {u r W : Nat} (hr : 0 < r) (h : r ≤ W) : WM.enc (u / 256 ^ r) (W - r) ++ [UInt8.ofNat (u / 2 ^ (8 * (r - 1)) % 256)] = WM.enc (u / 256 ^ (r - 1)) (W - (r - 1)) := by
  obtain ⟨s, rfl⟩ : ∃ s, r = s + 1 := ⟨r - 1, by omega⟩
  rw [Nat.add_sub_cancel, show W - s = (W - (s + 1)) + 1 by omega, WM.enc, Nat.div_div_eq_div_mul, ← Nat.pow_succ, Nat.pow_mul]
set_option maxRecDepth 100000 in
set_option maxHeartbeats 4000000 in
theorem put_any (F : Nat → Prop) (base : Nat) (v : Value) (t : List UInt8) (w : World) (hown : w.ownsRow base 5 1 v t.length (t.flatMap u8C)) (hbase : base ≤ w.heap.size) (ht : t.length ≤ 1000000) (hvF : ∀ i, v.ownBlock = some i → F i)
    (A : Option Addr) (c : Nat) (fs : List FldP) (vs : List Int) (hF : Els fpC 2 w w.heap.size A fs) (hA : ∀ (b off k : Nat) (x : FldP), A = some ⟨b, off, none⟩ → fs[k]? = some x → ¬ F b) (hw : ∀ x ∈ fs, (x.2.2 = 1 ∨ x.2.2 = 2 ∨ x.2.2 = 3) ∧ x.1 < w.heap.size ∧ ¬ F x.1) (hlen : fs.length ≤ 8) (hN : NumsAt w fs vs) :
    Calls Try.prog 21 #[v, .slice A fs.length c] w fun e w' => (fitF fs vs = true → ∃ v', e = .returned (.tuple #[v', .bool true]) ∧ Hid (w'.ownsRow base 5 1 v' (t ++ encF fs vs).length ((t ++ encF fs vs).flatMap u8C) ∧ ∀ i, v'.ownBlock = some i → F i ∨ w.heap.size ≤ i)) ∧ (fitF fs vs = false → e = .returned (.tuple #[.slice none 0 0, .bool false])) ∧ Hid (Foot F w w') := by
  obtain ⟨i0, hi, hz0, hz1, hz2⟩ := info_parts info_u8
  obtain ⟨n, hn⟩ : ∃ n, n = fs.length := ⟨_, rfl⟩
  rw [← hn] at hlen ⊢
  have HF := Lib.hid hF
  have HA := Lib.hid hA
  have HN := Lib.hid hN
  have Hn := Lib.hid hn
  have HW := Lib.hid hw
  have HV := Lib.hid hvF
  obtain ⟨av, cv, rfl⟩ := own_formE hown
  have HO := Lib.hid hown
  clear hF hN hn hw hown hA hvF
  have HLf := Lib.hid (fun k => encF_len (fs := fs.take k) (vs := vs.take k) fun x hx => by have := (HW.out x (List.mem_of_mem_take hx)).1; omega)
  go_enter Try.func21, Try.ntmps21
  go_wp2
  go_loopw [0, 12] (fun s i wr => ∃ (k : Nat) (T : List UInt8) (a : Option Addr) (cp : Nat), i = .int .i64 k ∧ s = .slice a T.length cp ∧ k ≤ n ∧ Hid (T = t ++ encF (fs.take k) (vs.take k)) ∧ Hid (fitF (fs.take k) (vs.take k) = true) ∧ Hid (wr.ownsRow base 5 1 (.slice a T.length cp) T.length (T.flatMap u8C)) ∧ Hid (Foot F w wr) ∧ Hid (∀ i, (Value.slice a T.length cp).ownBlock = some i → F i ∨ w.heap.size ≤ i)) (fun _ i _ => n - (intOf i).toNat)
  case atStart => exact ⟨0, t, av, cv, rfl, rfl, Nat.zero_le _, Lib.hid (by simp [encF]), Lib.hid (by simp [fitF]), HO, Lib.hid (Foot.refl _ _), Lib.hid fun i hi => .inl (HV.out i hi)⟩
  case round =>
    obtain ⟨k, T, a, cp, rfl, rfl, hk, hT, hfit, hO, hFt, hB⟩ := hrel
    have hTl : T.length ≤ 1000024 := by
      rw [hT.out, List.length_append]
      have h1 := HLf.out k
      have h2 : (fs.take k).length ≤ 8 := by simp; omega
      omega
    have hsz := hFt.out.size
    by_cases hlt : k < n
    · obtain ⟨x, hx⟩ := get_lt (l := fs) (k := k) (by rw [← Hn.out]; exact hlt)
      obtain ⟨y, hy, hcy, hi64⟩ := HN.out.next hx
      obtain ⟨b, off, rfl, hb, hc⟩ := HF.out.at_ hx
      have hnF := HA.out b off k x rfl hx
      obtain ⟨hxw, hxl, hxF⟩ := HW.out x (List.mem_of_getElem? hx)
      have f0 := (hFt.out.cell (p := ⟨b, off + k * 2, none⟩) hb hnF).trans (hc k x hx 0 _ rfl)
      have f1 := (hFt.out.cell (p := ⟨b, off + k * 2 + 1, none⟩) hb hnF).trans (hc k x hx 1 _ rfl)
      have f2 := (hFt.out.cell (p := ⟨x.1, x.2.1, none⟩) hxl hxF).trans hcy
      obtain ⟨x0, x1, W⟩ := x
      simp only at f0 f1 f2 hxw hxl hxF
      have Hx := Lib.hid hx
      have Hy := Lib.hid hy
      have Hb := Lib.hid hb
      have hsb : b < wr.heap.size := by omega
      have hsx : x0 < wr.heap.size := by omega
      obtain ⟨u, hu, hu64, hut, hue⟩ := u_fit hi64 hxw
      clear hx hy hcy hc hb hnF hxF hxl hi64
      cases hft : WM.fit y W with
      | false =>
        rw [hft] at hut
        simp only [Bool.not_false] at hut
        have HFN := Lib.hid (fitF_no Hx.out Hy.out hft)
        clear hft hue
        go_wp2_with fail
        go_ret2
        exact ⟨fun h => absurd h (by rw [HFN.out]; decide), fun _ => rfl, Lib.hid (hFt.out.alloc _)⟩
      | true =>
        rw [hft] at hut
        simp only [Bool.not_true] at hut
        have HU := Lib.hid (hue hft)
        have HFY := Lib.hid hft
        clear hft hue
        go_wp2_with fail
        obtain ⟨w1, hw1⟩ : ∃ w1, w1 = wr.alloc (.cells #[.pointer (some ⟨x0, x1, none⟩), .int .i64 W] 92) := ⟨_, rfl⟩
        rw [← hw1]
        have HO1 : Hid (w1.ownsRow base 5 1 (.slice a T.length cp) T.length (T.flatMap u8C)) := Lib.hid (by rw [hw1]; exact own_alloc hO.out _)
        have HFt1 : Hid (Foot F w w1) := Lib.hid (by rw [hw1]; exact hFt.out.alloc _)
        clear hw1 hFt hO f0 f1 f2 hsb hsx hut
        go_loopw [0, 9] (fun s i wr => ∃ (r : Nat) (S : List UInt8) (a : Option Addr) (cp : Nat), i = .int .i64 ((r : Int) - 1) ∧ s = .slice a S.length cp ∧ r ≤ W ∧ Hid (S = T ++ WM.enc (u / 256 ^ r) (W - r)) ∧ Hid (wr.ownsRow base 5 1 (.slice a S.length cp) S.length (S.flatMap u8C)) ∧ Hid (Foot F w wr) ∧ Hid (∀ i, (Value.slice a S.length cp).ownBlock = some i → F i ∨ w.heap.size ≤ i)) (fun _ i _ => (intOf i + 1).toNat)
        case atStart => exact ⟨W, T, a, cp, rfl, rfl, Nat.le_refl _, Lib.hid (by simp [WM.enc]), HO1, HFt1, hB⟩
        case round =>
          obtain ⟨r, S, a2, cp2, rfl, rfl, hr, hS, hO2, hFt2, hB2⟩ := hrel
          by_cases hr0 : 0 < r
          · have hsz2 := hFt2.out.size
            have hSl : S.length ≤ 1000030 := by rw [hS.out, List.length_append, WM.enc_len]; omega
            obtain ⟨d, hd⟩ : ∃ d : UInt8, d = UInt8.ofNat (u / 2 ^ (8 * (r - 1)) % 256) := ⟨_, rfl⟩
            have hdv : (u : Int) / 2 ^ (8 * (r - 1)) % 256 = (d.toNat : Nat) := by
              rw [hd, WM.byte_toNat]; push_cast; rfl
            have HS1 : Hid (S ++ [d] = T ++ WM.enc (u / 256 ^ (r - 1)) (W - (r - 1))) := Lib.hid (by rw [hS.out, ← enc_more hr0 hr, hd, List.append_assoc])
            have hge : decide ((1 : Int) ≤ r) = true := decide_eq_true (by omega)
            clear hd hS
            go_wp2_with (at_builtin; refine wpList_append_lies _ rfl _ _ 67 rfl base 5 i0 _ 1 1 Try.underlying67 hi hz0 hz1 hz2 rfl (by decide) (.slice a2 S.length cp2) S.length (S.flatMap u8C) rfl (own_alloc hO2.out _) ⟨wr.heap.size, 0, none⟩ 1 1 (u8C d) rfl rfl (World.news_of_block (cs := #[.int .u8 (d.toNat : Nat)]) (t := 5) (fr := (0, 0)) (heap_alloc_new wr _)) (u8C_one d) (by omega) (by unfold maxLen; omega) (by omega) (by simp; omega) (wr.heap.size + 1) (by simp) ?_; intro gg cap' w3 hown3 hgrow hat hlt3)
            have HF3 : Hid (Foot F w w3) := Lib.hid ((hFt2.out.alloc _).grown hgrow fun i hi => hB2.out i hi)
            have HO3 : Hid (w3.ownsRow base 5 1 (.slice (some ⟨gg, 0, none⟩) (S ++ [d]).length cap') (S ++ [d]).length ((S ++ [d]).flatMap u8C)) := Lib.hid (by
              rw [List.length_append, List.flatMap_append]
              simpa [u8C] using hown3)
            have HB3 : Hid (∀ i, (Value.slice (some ⟨gg, 0, none⟩) (S ++ [d]).length cap').ownBlock = some i → F i ∨ w.heap.size ≤ i) := Lib.hid fun i hi => by
              obtain rfl : gg = i := by simpa [Value.ownBlock] using hi
              rcases hat with h | h
              · exact hB2.out _ h
              · right; omega
            clear hown3 hgrow hat hlt3 hO2 hFt2 hB2
            go_roundw
            case rel => exact ⟨r - 1, S ++ [d], _, _, by go_num, by simp, by omega, HS1, HO3, HF3, HB3⟩
            case measure => simp [intOf]; omega
          · obtain rfl : r = 0 := by omega
            go_wp2_with fail
            have HT1 : Hid (S = t ++ encF (fs.take (k + 1)) (vs.take (k + 1))) := Lib.hid (by
              rw [hS.out, hT.out, encF_next Hx.out Hy.out, HU.out]; simp)
            have HF1 : Hid (fitF (fs.take (k + 1)) (vs.take (k + 1)) = true) := Lib.hid (by rw [fitF_next Hx.out Hy.out, hfit.out, HFY.out]; rfl)
            go_roundw
            case rel => exact ⟨k + 1, S, _, _, by go_num, rfl, by omega, HT1, HF1, hO2, hFt2, hB2⟩
            case measure => simp [intOf]; omega
    · obtain rfl : k = n := by omega
      have HT1 : Hid (T = t ++ encF fs vs) := Lib.hid (by
        have h1 := HN.out.1
        have h2 := Hn.out
        rw [hT.out, List.take_of_length_le (by omega), List.take_of_length_le (by omega)])
      have HF1 : Hid (fitF fs vs = true) := Lib.hid (by
        have h1 := HN.out.1
        have h2 := Hn.out
        have := hfit.out
        rwa [List.take_of_length_le (by omega), List.take_of_length_le (by omega)] at this)
      clear hT hfit
      go_wp2_with fail
      go_ret2
      exact ⟨fun _ => ⟨_, rfl, Lib.hid ⟨by rw [← HT1.out]; exact hO.out, hB.out⟩⟩, fun h => absurd h (by rw [HF1.out]; decide), hFt⟩
end Go.Proofs.Ytplekkpfpidebaa
