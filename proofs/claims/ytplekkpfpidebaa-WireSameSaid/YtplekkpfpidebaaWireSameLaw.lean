/- Entries without errors, put again, are the bytes that they were; each entry begins where the one ahead of it ends: the law WireSame answers true, at every string. -/
import Derived.Test.YtplekkpfpidebaaWireIn
set_option maxRecDepth 100000
set_option linter.unusedVariables false
namespace Go.Proofs.Ytplekkpfpidebaa.wireSame
open Go Go.ChangeShapes Go.WideShapes Go.ChangeAt Go.RowKit
attribute [local go_sem] bs_size bs_list
theorem cuts_small : ∀ (ws : List Nat) (b : List UInt8), (∀ c ∈ ws, c ≤ 2) → ∀ v ∈ WM.cuts ws b, v < 65536
  | [], _, _, v, hv => by simp [WM.cuts] at hv
  | c :: ws, b, h, v, hv => by
    simp only [WM.cuts, List.mem_cons] at hv
    rcases hv with rfl | hv
    · exact num_le 2 (by have := h c (by simp); simp; omega)
    · exact cuts_small ws _ (fun x hx => h x (by simp [hx])) v hv
theorem wid_small (k : Int) : ∀ c ∈ WM.wid k, c ≤ 2 := by
  unfold WM.wid
  split
  · decide
  · split
    · decide
    · split
      · decide
      · simp
theorem getD_small {l : List Nat} (h : ∀ v ∈ l, v < 65536) (i : Nat) : I64 ((l.getD i 0 : Nat) : Int) := by
  have : l.getD i 0 < 65536 := by
    rw [List.getD_eq_getElem?_getD]
    cases hx : l[i]? with
    | none => decide
    | some v => exact h v (List.mem_of_getElem? hx)
  constructor <;> omega
theorem acok_dec (k : Int) (b : List UInt8) : AcOk (WM.dec k b) := by
  have h := cuts_small (WM.wid k) b (wid_small k)
  have g := getD_small h
  have z : I64 0 := ⟨by decide, by decide⟩
  unfold WM.dec WM.mk
  split
  · exact ⟨z, g 0, g 1, g 2, g 3, g 4, g 5, g 6, g 7⟩
  · exact ⟨g 0, z, z, z, z, z, z, z, z⟩
theorem act_of_en {w : World} {b o : Nat} {x : WM.We} (h : CellsAt w b o (enC x)) : CellsAt w b o (acA x.a).toList := fun r v hr => by
  have hr10 : r < 10 := (List.getElem?_eq_some_iff.1 hr).1
  refine h r v ?_
  match r, hr10 with
  | 0, _ | 1, _ | 2, _ | 3, _ | 4, _ | 5, _ | 6, _ | 7, _ | 8, _ | 9, _ => simpa [enC, acA] using hr
theorem ac_of_kb {kb : UInt8} : UInt8.ofNat (kb.toNat : Int).toNat = kb := by simp
set_option maxHeartbeats 4000000 in
theorem walk (s0 : ByteArray) (w : World) (z0 : s0.size ≤ maxLen) :
    Calls Try.prog 6 #[.string s0] w fun e w' => e = .returned (.bool true) ∧ Below w.heap.size w w' := by
  obtain ⟨l, rfl⟩ := bs_of s0
  obtain ⟨m, hm⟩ : ∃ m, m = l.length := ⟨_, rfl⟩
  rw [bs_size, ← hm] at z0
  have hs0 : (bs l).size = m := by rw [bs_size, hm]
  have HM := Lib.hid hm
  unfold maxLen at z0
  clear hm
  have hAw := Lib.hid (fun W => awake17_any W)
  go_enter Try.func6, Try.ntmps6
  go_wp2_with fail
  refine (hAw.out w).mono ?_
  rintro e w1 ⟨rfl, hb1⟩
  have HB1 := Lib.hid hb1
  clear hb1 hAw
  by_cases h0 : 3000 < m
  · have t0 : decide ((3000 : Int) < m) = true := decide_eq_true (by omega)
    go_wp2_with fail
    go_ret
    exact ⟨rfl, HB1.out⟩
  have t0 : decide ((3000 : Int) < m) = false := decide_eq_false (by omega)
  go_wp2_with fail
  refine (entries_any l (by have := HM.out; omega) w1).mono ?_
  rintro e w2 ⟨A2, c2, rfl, HR2, hb2⟩
  have HB2 := Lib.hid (HB1.out.trans (hb2.mono HB1.out.size))
  have HE2 : Hid (Els enC 12 w2 w2.heap.size A2 (WM.entL 0 l)) := Lib.hid HR2.out.1
  clear hb2 HR2 HB1
  obtain ⟨L, hL⟩ : ∃ L, L = WM.entL 0 l := ⟨_, rfl⟩
  rw [← hL] at HE2 ⊢
  obtain ⟨n, hn⟩ : ∃ n, n = L.length := ⟨_, rfl⟩
  rw [← hn]
  have HL := Lib.hid hL
  have Hn := Lib.hid hn
  have hnm : n ≤ m := by
    have h9 : (WM.entL 0 l).length ≤ l.length := WM.entL_len _ 0 _
    rw [hn, hL, HM.out]; exact h9
  clear hL hn
  go_wp2_with fail
  go_loopw [4, 5] (fun at_ i wr => ∃ (k t : Nat), i = .int .i64 k ∧ at_ = .int .i64 t ∧ k ≤ n ∧ t ≤ m ∧ Hid (L.drop k = WM.entL t (l.drop t)) ∧ Hid (Below w.heap.size w wr) ∧ Hid (Below w2.heap.size w2 wr)) (fun _ i _ => n - (intOf i).toNat)
  case atStart => exact ⟨0, 0, rfl, rfl, Nat.zero_le _, Nat.zero_le _, Lib.hid (by simpa using HL.out), HB2, Lib.hid (Below.refl _ _)⟩
  case round =>
    obtain ⟨k, t, rfl, rfl, hk, ht, hLk, hBw, hB2w⟩ := hrel
    by_cases hlt : k < n
    · obtain ⟨x, hx⟩ := get_lt (l := L) (k := k) (by rw [← Hn.out]; exact hlt)
      have hdr : L.drop k = x :: L.drop (k + 1) := by
        obtain ⟨h1, h2⟩ := List.getElem?_eq_some_iff.1 hx
        rw [List.drop_eq_getElem_cons h1, h2]
      obtain ⟨b, off, rfl, hb, hc⟩ := HE2.out.at_ hx
      have hcx := (hc k x hx).keep hb hB2w.out
      have hE := hLk.out
      rw [hdr] at hE
      have htm : t < m := by
        rcases Nat.lt_or_ge t m with h | h
        · exact h
        · have e : l.drop t = [] := List.drop_of_length_le (by rw [← HM.out]; exact h)
          rw [e, WM.entL_nil] at hE
          cases hE
      obtain ⟨kb, hkb, _⟩ := byt_get (l := l) (t := t) (by rw [← HM.out]; exact htm)
      obtain ⟨r, hr⟩ : ∃ r, r = l.drop (t + 1) := ⟨_, rfl⟩
      rw [← hr] at hkb
      rw [hkb] at hE
      have hrl : r.length = m - (t + 1) := by rw [hr, List.length_drop, HM.out]
      cases hs : WM.size kb.toNat with
      | none =>
        rw [WM.entL_bad hs] at hE
        simp only [List.cons.injEq] at hE
        obtain ⟨rfl, hE⟩ := hE
        have x10 := hcx 10 _ rfl
        have x11 := hcx 11 _ rfl
        have HN : Hid (L.drop (k + 1) = WM.entL (t + 1) (l.drop (t + 1))) := Lib.hid (by rw [hE, hr])
        clear hs hE hdr hcx hc hb hx hkb hr hrl hLk
        have tm : decide ((m : Int) ≤ t) = false := decide_eq_false (by omega)
        go_wp2_with fail
        exact ⟨⟨k + 1, t + 1, by go_num, by go_num, by omega, by omega, HN, hBw, hB2w⟩, by simp [intOf]; omega⟩
      | some sz =>
        by_cases hsh : r.length < sz
        · rw [WM.entL_short hs hsh] at hE
          simp only [List.cons.injEq] at hE
          obtain ⟨rfl, hE⟩ := hE
          have x10 := hcx 10 _ rfl
          have x11 := hcx 11 _ rfl
          have HN : Hid (L.drop (k + 1) = WM.entL m (l.drop m)) := Lib.hid (by rw [hE, List.drop_of_length_le (by rw [← HM.out]; exact Nat.le_refl _), WM.entL_nil])
          clear hs hE hdr hcx hc hb hx hkb hr hrl hLk hsh
          have tm : decide ((m : Int) ≤ t) = false := decide_eq_false (by omega)
          go_wp2_with fail
          exact ⟨⟨k + 1, m, by go_num, rfl, by omega, Nat.le_refl _, HN, hBw, hB2w⟩, by simp [intOf]; omega⟩
        · rw [WM.entL_ok hs (Nat.le_of_not_lt hsh)] at hE
          simp only [List.cons.injEq] at hE
          obtain ⟨rfl, hE⟩ := hE
          have x10 := hcx 10 _ rfl
          have x11 := hcx 11 _ rfl
          have Hcx := Lib.hid (act_of_en hcx)
          have hput := WM.put_dec (k := kb.toNat) (n := sz) (b := r.take sz) hs (by simp; omega)
          rw [ac_of_kb] at hput
          have hok := acok_dec kb.toNat (r.take sz)
          obtain ⟨ac, hac⟩ : ∃ ac, ac = WM.dec kb.toNat (r.take sz) := ⟨_, rfl⟩
          obtain ⟨S, hS⟩ : ∃ S, S = kb :: r.take sz := ⟨_, rfl⟩
          rw [← hac] at hput hok Hcx
          rw [← hS] at hput
          have HP := Lib.hid (fun W => aput_any ac hok W)
          rw [hput] at HP
          have hSl : S.length = sz + 1 := by rw [hS]; simp; omega
          have hSd : (bs l).extract t (t + (sz + 1)) = bs S := by
            rw [bs_cut, hkb, hS]
            congr 1
            rw [show t + (sz + 1) - t = sz + 1 by omega]; rfl
          have HN : Hid (L.drop (k + 1) = WM.entL (t + (sz + 1)) (l.drop (t + (sz + 1)))) := Lib.hid (by rw [hE, hr, List.drop_drop, show t + 1 + sz = t + (sz + 1) by omega])
          have hbd : t + (sz + 1) ≤ m := by omega
          unfold acV acA at HP
          clear hs hE hdr hcx hc hb hx hkb hr hrl hLk hsh hput hok hac hS
          have tm : decide ((m : Int) ≤ t) = false := decide_eq_false (by omega)
          have g1 : IntKind.i64.wrap ((t : Int) + (sz + 1)) = ((t + (sz + 1) : Nat) : Int) := by rw [IntWalk.i64_in _ (by omega)]; push_cast; rfl
          have g2 : decide ((m : Int) < t + (sz + 1)) = false := decide_eq_false (by omega)
          have g3 : (t : Int) + (sz + 1) ≤ m := by omega
          go_wp2_with (first | (refine wpList_load_act rfl _ rfl b (off + k * 12) ac rfl Hcx.out ?_))
          refine (HP.out _).mono ?_
          rintro e w3 ⟨rfl, hb3⟩
          have hBw3 : Hid (Below w.heap.size w w3) := Lib.hid (hBw.out.trans (hb3.mono hBw.out.size))
          have hB23 : Hid (Below w2.heap.size w2 w3) := Lib.hid (hB2w.out.trans (hb3.mono hB2w.out.size))
          clear hb3 x10 x11 Hcx HP
          go_wp2_with fail
          exact ⟨⟨k + 1, t + (sz + 1), by go_num, by go_num, by omega, hbd, HN, hBw3, hB23⟩, by simp [intOf]; omega⟩
    · obtain rfl : k = n := by omega
      have htm : t = m := by
        rcases Nat.lt_or_ge t m with h | h
        · exfalso
          have h1 := hLk.out
          rw [List.drop_of_length_le (by rw [← Hn.out]; exact Nat.le_refl _)] at h1
          obtain ⟨kb, hkb, _⟩ := byt_get (l := l) (t := t) (by rw [← HM.out]; exact h)
          rw [hkb] at h1
          cases hs : WM.size kb.toNat with
          | none => rw [WM.entL_bad hs] at h1; cases h1
          | some sz =>
            by_cases hsh : (l.drop (t + 1)).length < sz
            · rw [WM.entL_short hs hsh] at h1; cases h1
            · rw [WM.entL_ok hs (Nat.le_of_not_lt hsh)] at h1; cases h1
        · omega
      subst htm
      go_wp2_with fail
      go_ret
      exact ⟨by simp, hBw.out⟩

set_option maxRecDepth 100000 in
set_option maxHeartbeats 1000000 in
theorem lifted (os : Os) (started : os.Started) (H : Type) (enc : TypeId × Value → H) :
    ReturnsInHanded {} Try.checked os 6 .any (Rows.wireSameSpec.pre6 enc Try.prog Try.f6 Rows.wireSameRow.domain false) (Rows.wireSameSpec.post enc Try.prog Try.f6 false true false false) := by
  refine returnsInHanded_of_change (C := Try.checked) own started (by kernel_rfl) Try.func6
    (ChangeSpec.witness6 (enc := enc) (C := Try.checked) false ⟨#[], #[.string ⟨#[]⟩], []⟩ 8 (by kernel_rfl) (by kernel_rfl) (by kernel_rfl) (by kernel_rfl)) ?_
  intro W base args ds gs before hval0 hW _ _
  have hval : ∀ (j : Nat) t v, Try.f6.params[j]? = some t → args[j]? = some v → Value.okWide Try.prog W .any base t v := hval0
  have hW' := hW
  obtain ⟨p, q, hA0, hV, rfl, hfz, hnd⟩ := hW
  have hA : DataW.TrodAll enc Try.prog W 0 (fun _ => true) true Try.f6.params.toList args.toList ds p := hA0
  rw [Try.params6] at hA hval
  obtain ⟨v0, vs0, d0, ds0, p0, q0, hargs, rfl, rfl, h0, r0⟩ := trodAll_cons hA
  obtain ⟨rfl, rfl, rfl⟩ := trodAll_nil r0
  obtain rfl : args = #[v0] := by cases args; simp_all
  obtain ⟨rfl, rfl⟩ := trodVars_none hV
  have k0 := h0
  have lt0 : ∀ x ∈ p0, x.block < W.heap.size := by obtain ⟨m, hm⟩ := k0; exact DataW.trod_lt m _ _ _ hm
  obtain ⟨s0, rfl, z0⟩ := str_of (hval 0 9 v0 rfl rfl) h0
  clear hA0 hval0
  refine (walk s0 W z0).mono fun e W' ⟨he, bel⟩ => ?_
  subst he
  exact ⟨_, rfl, _, _, _, [], _, [], hW', trodAll_mk1 (shut_bool Try.underlying4 _), (trodAll_cons_mk (Below.trod laidOut (by kernel_rfl) (of_decide_eq_true (by kernel_rfl)) k0 bel lt0) trodAll_mk0), rfl, bel.frame _, fun h => by cases h⟩

/-- THE STATEMENT. -/
theorem holds : Rows.WireSameSaid :=
  OpenClaim.holds_of_wide 6 Try.f6 rfl rfl rfl rfl rfl rfl rfl ⟨rfl, rfl, rfl, rfl, rfl⟩ rfl rfl rfl rfl rfl (by kernel_rfl) Try.func6 (by kernel_rfl)
    (of_decide_eq_true (by kernel_rfl)) (by unfold Func.isWrapper; first | (rw [if_pos (by decide +kernel)]; kernel_rfl) | (rw [if_neg (by decide +kernel)]; exact ⟨rfl, rfl⟩))
    (fun os started H enc _ => lifted os started H enc)
end Go.Proofs.Ytplekkpfpidebaa.wireSame
