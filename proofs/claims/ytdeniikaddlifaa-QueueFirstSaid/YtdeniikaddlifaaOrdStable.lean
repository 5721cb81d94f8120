/- stableCmpFunc and SortStableFunc of package slices, at the first n waits in one block: sorted by the key. -/
import Derived.Test.YtdeniikaddlifaaOrdSym
import Derived.Test.YtdeniikaddlifaaOrdIns
import Derived.Test.YtdeniikaddlifaaPackTile
namespace Go.Proofs.Ytdeniikaddlifaa
open Go.RowKit
open PK WK
set_option maxRecDepth 100000 in
set_option maxHeartbeats 4000000 in
theorem wstable_any (E : Nat → Wt) (cp : Nat) (key : Nat → Nat) (g n : Nat) (v0 : Value) (cv : Nat → Nat → Int) (w : World) (hC : CmpW E g n v0 cv w) (hr : ∀ x y, x < y → y < n → ltC cv y x = decide (key y < key x)) (hn : n ≤ 500000) (hB : WBlk E w g (List.range n)) :
    Calls Try.prog 46 #[.slice (some ⟨g, 0, none⟩) n cp, .int .i64 (n : Nat), .func (.func 52) #[] #[v0]] w fun e w' =>
      e = .returned (.tuple #[]) ∧ Foot (· = g) w w' ∧ Hid (∃ Z, WBlk E w' g Z ∧ Z.Perm (List.range n) ∧ Asc key Z) := by
  obtain ⟨R, hR⟩ : ∃ R, R = List.range n := ⟨_, rfl⟩
  rw [← hR] at hB ⊢
  have hRl : R.length = n := by rw [hR, List.length_range]
  have hRise : Rise key (ltC cv) R := by
    rw [hR]
    refine List.pairwise_iff_getElem.2 fun i j hi hj hij => ?_
    simp at hi hj ⊢
    exact hr i j hij hj
  have HI := Lib.hid (fun (a b : Nat) (P Q S : List Nat) (W : World) (hF : Foot (· = g) w W) (hQ : Q.Sublist R) => wins_any E cp key g n n a b v0 cv w P Q S W hC hF (fun z hz => by have := hQ.subset hz; rw [hR] at this; simpa using this) (hRise.sublist hQ))
  have HM := Lib.hid (fun (P S L : List Nat) (s q : Nat) (hT : Tiled key s R L) (h1 : 0 < (tile s (2 * q) L).length) (h2 : 0 < (tile s (2 * q + 1) L).length) =>
    wsym_any E cp key g n n v0 cv w hC (by omega) _ P (tile s (2 * q) L) (tile s (2 * q + 1) L) S (Nat.le_refl _) h1 h2 (two_rel hr (hR ▸ hT)) (hT.asc _) (hT.asc _) (tile_lt (hR ▸ hT)) (tile_lt (hR ▸ hT)))
  have H0 := Lib.hid hRl
  have HB : Hid (∃ q D, WBlk E w g (D ++ R.drop 0) ∧ Part key 20 R D q ∧ 0 = q * 20) := Lib.hid ⟨0, [], hB, Part.nil, rfl⟩
  have HF := Lib.hid (Foot.refl (· = g) w)
  clear hC hr hR hRl hRise hB
  go_enter Try.func46, Try.ntmps46
  go_wp2
  go_loopw [7, 8] (fun va vb wr => ∃ a b : Nat, va = .int .i64 (a : Nat) ∧ vb = .int .i64 (b : Nat) ∧ b = a + 20 ∧ a ≤ n ∧ Hid (Foot (· = g) w wr) ∧ Hid (∃ q D, WBlk E wr g (D ++ R.drop a) ∧ Part key 20 R D q ∧ a = q * 20)) (fun va _ _ => n - (intOf va).toNat)
  case atStart => exact ⟨0, 20, rfl, rfl, rfl, by omega, HF, HB⟩
  case round =>
    clear HB HF
    obtain ⟨a, b, rfl, rfl, hab, han, hF, hI⟩ := hrel
    by_cases hle : b ≤ n
    · have hC : Hid (Calls Try.prog 54 #[.slice (some ⟨g, 0, none⟩) n cp, .int .i64 (a : Nat), .int .i64 (b : Nat), .func (.func 52) #[] #[v0]] wr fun e w' =>
          e = .returned (.tuple #[]) ∧ Foot (· = g) wr w' ∧ Hid (∃ q D, WBlk E w' g (D ++ R.drop b) ∧ Part key 20 R D q ∧ b = q * 20)) := Lib.hid (by
        obtain ⟨q, D, hb, hp, ha⟩ := hI.out
        have hn := H0.out
        have et : tile 20 q R = (R.drop a).take 20 := by unfold tile; rw [ha]
        have ed : R.drop b = (R.drop a).drop 20 := by rw [List.drop_drop, hab]
        have el : ((R.drop a).take 20).length = 20 := by rw [List.length_take, List.length_drop]; omega
        refine (HI.out a b D ((R.drop a).take 20) (R.drop b) wr hF.out ((List.take_sublist _ _).trans (List.drop_sublist _ _)) (by rw [hp.len]; omega) (by rw [hp.len, el]; omega) (by rw [hp.len, el, List.length_drop]; omega) (by omega) (by rw [ed, List.append_assoc, List.take_append_drop]; exact hb)).mono ?_
        rintro e w' ⟨he, hf, hz⟩
        obtain ⟨Z, z1, z2, z3⟩ := hz.out
        exact ⟨he, hf, Lib.hid ⟨q + 1, D ++ Z, z1, hp.step (by rw [et]; exact z2) z3 (by rw [z2.length_eq, el]), by omega⟩⟩)
      have t1 : decide (b ≤ n) = true := decide_eq_true hle
      have Hab := Lib.hid hab
      have hab' : a < b := by omega
      clear hI hab
      go_wp2_with fail
      refine hC.out.mono ?_
      rintro e w1 ⟨rfl, hf1, hI1⟩
      have hF1 := Lib.hid (hF.out.trans hf1 fun _ h => .inl h)
      clear hC hF hf1
      go_wp2
      go_roundw
      case rel => exact ⟨b, b + 20, rfl, by go_num, rfl, hle, hF1, hI1⟩
      case measure => simp [intOf]; omega
    · have hC : Hid (Calls Try.prog 54 #[.slice (some ⟨g, 0, none⟩) n cp, .int .i64 (a : Nat), .int .i64 (n : Nat), .func (.func 52) #[] #[v0]] wr fun e w' =>
          e = .returned (.tuple #[]) ∧ Foot (· = g) wr w' ∧ Hid (∃ L, WBlk E w' g L ∧ Tiled key 20 R L)) := Lib.hid (by
        obtain ⟨q, D, hb, hp, ha⟩ := hI.out
        have hn := H0.out
        have et : tile 20 q R = R.drop a := by unfold tile; rw [← ha, List.take_of_length_le (by rw [List.length_drop]; omega)]
        refine (HI.out a n D (R.drop a) [] wr hF.out (List.drop_sublist _ _) (by rw [hp.len]; omega) (by rw [hp.len, List.length_drop]; omega) (by rw [hp.len, List.length_drop]; simp; omega) (by omega) (by rw [List.append_nil]; exact hb)).mono ?_
        rintro e w' ⟨he, hf, hz⟩
        obtain ⟨Z, z1, z2, z3⟩ := hz.out
        exact ⟨he, hf, Lib.hid ⟨D ++ Z, by simpa using z1, hp.done (by rw [et]; exact z2) z3 (by omega) (by omega)⟩⟩)
      have t1 : decide (b ≤ n) = false := decide_eq_false hle
      clear hI hab hle
      go_wp2_with fail
      refine hC.out.mono ?_
      rintro e w1 ⟨rfl, hf1, hI1⟩
      have hF1 := Lib.hid (hF.out.trans hf1 fun _ h => .inl h)
      have HT : Hid (∃ L, WBlk E w1 g L ∧ Tiled key 20 R L) := hI1
      clear hC hF hf1 hI1 t1 han
      go_wp2
      go_loopw [6, 7, 8, 9] (fun vs v7 v8 v9 wr => ∃ s : Nat, vs = .int .i64 (s : Nat) ∧ 20 ≤ s ∧ s ≤ 1000000 ∧ Hid (Foot (· = g) w wr) ∧ Hid (∃ L, WBlk E wr g L ∧ Tiled key s R L)) (fun vs _ _ _ _ => n - (intOf vs).toNat)
      case atStart => exact ⟨20, rfl, by omega, by omega, hF1, HT⟩
      case round =>
        clear hF1 HT
        obtain ⟨s, rfl, hs20, hs1, hF, hT⟩ := hrel
        by_cases hsn : s < n
        · obtain ⟨L, hBk, hTl⟩ := hT.out
          have HTL := Lib.hid hTl
          have HLl : Hid (L.length = n) := Lib.hid (by rw [hTl.len]; exact H0.out)
          have HI0 : Hid (∃ q D, WBlk E wr g (D ++ L.drop 0) ∧ Part key (2 * s) R D q ∧ 0 = q * (2 * s)) := Lib.hid ⟨0, [], by simpa using hBk, Part.nil, by simp⟩
          have hF0 := hF
          have t1 : decide (s < n) = true := decide_eq_true hsn
          clear hT hBk hTl hF
          go_wp2
          go_loopw [7, 8] (fun va vb wr => ∃ a b : Nat, va = .int .i64 (a : Nat) ∧ vb = .int .i64 (b : Nat) ∧ b = a + 2 * s ∧ a ≤ n ∧ Hid (Foot (· = g) w wr) ∧ Hid (∃ q D, WBlk E wr g (D ++ L.drop a) ∧ Part key (2 * s) R D q ∧ a = q * (2 * s))) (fun va _ _ => n - (intOf va).toNat)
          case atStart => exact ⟨0, 2 * s, rfl, by go_num, by omega, by omega, hF0, HI0⟩
          case round =>
            clear hF0 HI0
            obtain ⟨a, b, rfl, rfl, hab, han, hF, hI⟩ := hrel
            obtain ⟨m, hm⟩ : ∃ m, m = a + s := ⟨_, rfl⟩
            have em : (a : Int) + (s : Int) = (m : Int) := by omega
            have hmb : m < b := by omega
            have ham : a < m := by omega
            by_cases hle : b ≤ n
            · have hC : Hid (Calls Try.prog 55 #[.slice (some ⟨g, 0, none⟩) n cp, .int .i64 (a : Nat), .int .i64 (m : Nat), .int .i64 (b : Nat), .func (.func 52) #[] #[v0]] wr fun e w' =>
                e = .returned (.tuple #[]) ∧ Foot (· = g) wr w' ∧ Hid (∃ q D, WBlk E w' g (D ++ L.drop b) ∧ Part key (2 * s) R D q ∧ b = q * (2 * s))) := Lib.hid (by
                obtain ⟨q, D, hb, hp, ha⟩ := hI.out
                have hn := HLl.out
                obtain ⟨c1, c2, c3, c4⟩ := two_cut ha HTL.out
                have l1 : (tile s (2 * q) L).length = s := by omega
                have l2 : (tile s (2 * q + 1) L).length = s := by omega
                have ed : L.drop b = (L.drop a).drop (2 * s) := by rw [List.drop_drop, hab]
                have hpl := hp.len
                rw [← ha] at hpl
                refine (HM.out D (L.drop b) L s q HTL.out (by omega) (by omega) wr a m b hF.out (by
                  rw [List.append_assoc D, ← c1, ed, List.append_assoc, List.take_append_drop]; exact hb) hpl (by omega) (by omega) (by rw [List.length_drop]; omega)).mono ?_
                rintro e w' ⟨he, hf, hz⟩
                obtain ⟨Z, z1, z2, z3⟩ := hz.out
                exact ⟨he, hf, Lib.hid ⟨q + 1, D ++ Z, z1, hp.step (c4 Z z2) z3 (by rw [z2.length_eq, List.length_append]; omega), by rw [Nat.succ_mul]; omega⟩⟩)
              have t2 : decide (b ≤ n) = true := decide_eq_true hle
              have Hab := Lib.hid (And.intro hab hm)
              have hab2 : a < b := by omega
              clear hI hab hm
              go_wp2_with fail
              refine hC.out.mono ?_
              rintro e w1 ⟨rfl, hf1, hI1⟩
              have hF1 := Lib.hid (hF.out.trans hf1 fun _ h => .inl h)
              clear hC hF hf1
              go_wp2
              go_roundw
              case rel => exact ⟨b, b + 2 * s, rfl, by go_num, rfl, hle, hF1, hI1⟩
              case measure => simp [intOf]; omega
            · have t2 : decide (b ≤ n) = false := decide_eq_false hle
              by_cases hmn : m < n
              · have hC : Hid (Calls Try.prog 55 #[.slice (some ⟨g, 0, none⟩) n cp, .int .i64 (a : Nat), .int .i64 (m : Nat), .int .i64 (n : Nat), .func (.func 52) #[] #[v0]] wr fun e w' =>
                e = .returned (.tuple #[]) ∧ Foot (· = g) wr w' ∧ Hid (∃ L, WBlk E w' g L ∧ Tiled key (2 * s) R L)) := Lib.hid (by
                  obtain ⟨q, D, hb, hp, ha⟩ := hI.out
                  have hn := HLl.out
                  have hRl := H0.out
                  obtain ⟨c1, c2, c3, c4⟩ := two_cut ha HTL.out
                  have hpl := hp.len
                  rw [← ha] at hpl
                  have ed : L.drop a = tile s (2 * q) L ++ tile s (2 * q + 1) L := by rw [← c1, List.take_of_length_le (by rw [List.length_drop]; omega)]
                  refine (HM.out D [] L s q HTL.out (by omega) (by omega) wr a m n hF.out (by
                    rw [List.append_nil, List.append_assoc D, ← ed]; exact hb) hpl (by omega) (by omega) (by simp; omega)).mono ?_
                  rintro e w' ⟨he, hf, hz⟩
                  obtain ⟨Z, z1, z2, z3⟩ := hz.out
                  exact ⟨he, hf, Lib.hid ⟨D ++ Z, by simpa using z1, hp.done (c4 Z z2) z3 (by omega) (by rw [Nat.succ_mul]; omega)⟩⟩)
                have t3 : decide (m < n) = true := decide_eq_true hmn
                clear hI hab hm hle
                go_wp2_with fail
                refine hC.out.mono ?_
                rintro e w1 ⟨rfl, hf1, hI1⟩
                have hF1 := Lib.hid (hF.out.trans hf1 fun _ h => .inl h)
                clear hC hF hf1
                go_wp2
                go_roundw
                case rel => exact ⟨2 * s, by go_num, by omega, by omega, hF1, hI1⟩
                case measure => simp [intOf]; omega
              · have hI1 : Hid (∃ L, WBlk E wr g L ∧ Tiled key (2 * s) R L) := Lib.hid (by
                  obtain ⟨q, D, hb, hp, ha⟩ := hI.out
                  have hn := HLl.out
                  have hRl := H0.out
                  obtain ⟨c1, c2, c3, c4⟩ := two_cut ha HTL.out
                  have ed : L.drop a = tile s (2 * q) L ++ tile s (2 * q + 1) L := by rw [← c1, List.take_of_length_le (by rw [List.length_drop]; omega)]
                  have e0 : tile s (2 * q + 1) L = [] := List.length_eq_zero_iff.1 (by omega)
                  refine ⟨D ++ L.drop a, hb, hp.done (c4 _ (by rw [ed])) ?_ (by omega) (by rw [Nat.succ_mul]; omega)⟩
                  rw [ed, e0, List.append_nil]
                  exact HTL.out.asc _)
                have t3 : decide (m < n) = false := decide_eq_false hmn
                have hF1 := hF
                clear hI hab hm hle hF
                go_wp2
                go_roundw
                case rel => exact ⟨2 * s, by go_num, by omega, by omega, hF1, hI1⟩
                case measure => simp [intOf]; omega
        · have hR : Hid (∃ Z, WBlk E wr g Z ∧ Z.Perm R ∧ Asc key Z) := Lib.hid (by
            obtain ⟨L, h1, h2⟩ := hT.out
            obtain ⟨h3, h4⟩ := h2.one (by have := H0.out; omega)
            exact ⟨L, h1, h3, h4⟩)
          have t1 : decide (s < n) = false := decide_eq_false hsn
          clear hT hsn
          go_wp2
          go_end0
          exact ⟨rfl, hF.out, hR⟩
set_option maxRecDepth 100000 in
theorem wsortstable_any (E : Nat → Wt) (cp : Nat) (key : Nat → Nat) (g n : Nat) (v0 : Value) (cv : Nat → Nat → Int) (w : World) (hC : CmpW E g n v0 cv w) (hr : ∀ x y, x < y → y < n → ltC cv y x = decide (key y < key x)) (hn : n ≤ 500000) (hB : WBlk E w g (List.range n)) :
    Calls Try.prog 39 #[.slice (some ⟨g, 0, none⟩) n cp, .func (.func 52) #[] #[v0]] w fun e w' =>
      e = .returned (.tuple #[]) ∧ Foot (· = g) w w' ∧ Hid (∃ Z, WBlk E w' g Z ∧ Z.Perm (List.range n) ∧ Asc key Z) := by
  have hS := Lib.hid (wstable_any E cp key g n v0 cv w hC hr hn hB)
  clear hC hr hB
  go_enter Try.func39, Try.ntmps39
  go_wp2_with fail
  refine hS.out.mono ?_
  rintro e w1 ⟨rfl, hf1, hI1⟩
  go_wp2
  go_end0
  exact ⟨rfl, hf1, hI1⟩
end Go.Proofs.Ytdeniikaddlifaa
