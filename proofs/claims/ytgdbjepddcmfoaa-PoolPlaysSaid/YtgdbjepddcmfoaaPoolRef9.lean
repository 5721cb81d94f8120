/- The document's pool: View. -/
import Derived.BigQuiet
import Derived.Test.YtgdbjepddcmfoaaPoolRef8
namespace Go.Proofs.Ytgdbjepddcmfoaa
open Go.RowKit

theorem own_base {W : World} {b c : Nat} {e : TypeId} {size : Nat} {v : Value} {n : Nat} {xs : List Value} (h : W.ownsRow c e size v n xs) (hb : b ≤ c) : W.ownsRow b e size v n xs := by
  obtain ⟨h0, h1⟩ := h
  refine ⟨h0, ?_⟩
  rcases h1 with h1 | ⟨g, cap, cur, h2, h3, h4⟩
  · exact .inl h1
  · exact .inr ⟨g, cap, cur, h2, Nat.le_trans hb h3, h4⟩
set_option maxRecDepth 100000 in
set_option maxHeartbeats 4000000 in
theorem refview_any (q al tk db ca ct cd : Nat) (fs ts : List Fr) (dr : List Bool) (w : World) (h : RefAt w q al tk db ca ct cd fs ts dr) :
    Calls Try.prog 15 #[.pointer (some ⟨q, 0, none⟩)] w fun e w' => ∃ v, e = .returned v ∧ w'.ownsRow w.heap.size 62 4 v (PM.view fs ts dr).length ((PM.view fs ts dr).flatMap frC) ∧ Below w.heap.size w w' := by
  obtain ⟨L, hL⟩ : ∃ L, L = PM.free fs ts := ⟨_, rfl⟩
  have hvw : PM.view fs ts dr = L.filter (seen dr) := by rw [hL]; rfl
  rw [hvw]
  have hC := reffree_any q al tk db ca ct cd fs ts dr w h
  rw [← hL] at hC
  have hlen := PM.free_len h.inv
  rw [← hL] at hlen
  have hfew := h.ok.few
  have hpos := h.ok.pos
  have hnods := h.ok.nodes
  have hok := h.ok.free h.inv
  rw [← hL] at hok
  have hdb := h.heads.2.2
  obtain ⟨n, hn⟩ : ∃ n, fs.length = n := ⟨_, rfl⟩
  obtain ⟨kd, hkd⟩ : ∃ kd, dr.length = kd := ⟨_, rfl⟩
  rw [hn] at hfew hpos hC hlen
  rw [hkd] at hnods hok hdb
  obtain ⟨l1, l2, l3, l4⟩ := h.lt
  have HC := Lib.hid hC
  have HP := Lib.hid (And.intro h (And.intro hlen (And.intro hok (And.intro hdb hL))))
  obtain ⟨i0, hi, hz0, hz1, hz2⟩ := info_parts info_free
  clear h hC hL hvw hlen hok hdb hn
  go_enter Try.func15, Try.ntmps15
  go_wp2_with (go_at_call 13; refine HC.out.mono ?_; rintro e w1 ⟨v, rfl, ho1, hb1⟩; obtain ⟨g, cap, rfl, hgB, hgl⟩ := ho1.form hpos)
  have hT : TakenAt w1 g L := by
    have hlen := HP.out.2.1
    rw [← hlen] at ho1
    exact (TakenAt.of_own ho1).1
  have hs1 := hb1.size
  have HT := Lib.hid (And.intro hT hb1)
  clear hT ho1 hb1
  go_loopw [3, 5] (fun out i wr => ∃ (k : Nat) (A : Option Addr) (cp : Nat), i = .int .i64 k ∧ out = .slice A ((L.take k).filter (seen dr)).length cp ∧ k ≤ n ∧ Below w1.heap.size w1 wr ∧ wr.ownsRow w1.heap.size 62 4 (.slice A ((L.take k).filter (seen dr)).length cp) ((L.take k).filter (seen dr)).length (((L.take k).filter (seen dr)).flatMap frC)) (fun _ i _ => n - (intOf i).toNat)
  case atStart => exact ⟨0, none, 0, rfl, rfl, by omega, Below.refl _ _, World.ownsRow_nil _ _ _ _⟩
  case round =>
    obtain ⟨k, A, cp, rfl, rfl, hk, hBl, hown⟩ := hrel
    have hBs := hBl.size
    by_cases hlt : k < n
    · obtain ⟨h0, hlen, hok, hdb, hL⟩ := HP.out
      obtain ⟨f, hx⟩ := get_lt (l := L) (k := k) (by omega)
      obtain ⟨fm, fc, fn⟩ := hok f (List.mem_of_getElem? hx)
      obtain ⟨b, hb⟩ := get_lt (l := dr) (k := f.n) (by omega)
      have hr := (h0.keep HT.out.2).off (fun i hi _ => hBl.block i hi)
      obtain ⟨f0, f1, f2, f3⟩ := (HT.out.1.at_ hx).keep hgl hBl
      have d0 := (hr.bit hb).1
      have d2 := hr.heads.2.2
      rw [hkd] at d2
      have t0 : decide (k < n) = true := by simpa using hlt
      have tn : (f.n : Nat) < kd := fn
      have N := Lib.hid (filter_next (q := seen dr) hx)
      obtain ⟨V, hV⟩ : ∃ V, V = (L.take k).filter (seen dr) := ⟨_, rfl⟩
      have hVl : V.length ≤ 1000 := by
        rw [hV]; have := List.length_filter_le (seen dr) (L.take k); rw [List.length_take] at this; omega
      rw [← hV] at hown N ⊢
      have OW := Lib.hid hown
      have HB := Lib.hid hBl
      have HV := Lib.hid hV
      have hsn : seen dr f = !b := by unfold seen; rw [hb]; rfl
      clear h0 hlen hok hdb hL hr hx hb hV hown hBl
      cases b
      · have hsn2 : seen dr f = true := hsn
        rw [if_pos hsn2] at N
        clear hsn hsn2
        go_wp2
        go_quiet (fail)
        go_wp2_with (at_builtin; refine wpList_append_lies _ rfl _ _ 41 rfl w1.heap.size 62 i0 _ 4 32 Try.underlying41 hi hz0 hz1 hz2 rfl (by decide) (.slice A V.length cp) V.length (V.flatMap frC) rfl (own_same (OW.out.alloc _) (fun _ _ => rfl)) ⟨wr.heap.size, 0, none⟩ 1 1 [.int .i64 (f.n : Nat), .int .i64 (f.d : Nat), .int .u64 (f.m : Nat), .int .i64 (f.c : Nat)] rfl rfl (World.news_of_block (cs := #[.int .i64 (f.n : Nat), .int .i64 (f.d : Nat), .int .u64 (f.m : Nat), .int .i64 (f.c : Nat)]) (t := 62) (fr := (0, 0)) (heap_alloc_new wr _)) (by simp [Value.oneCell']) (by omega) (by unfold maxLen; omega) (by omega) (by simp; omega) (wr.heap.size + 1) (by simp) ?_; intro gg cap' w3 hown3 hgrow hat hlt3)
        have hB6 : Below w1.heap.size w1 w3 := (below_drewN (HB.out.alloc hBs _) _).grown hgrow (by simp; omega) (fun i e => (OW.out.lt i e).1)
        have hown6 : w3.ownsRow w1.heap.size 62 4 (.slice (some ⟨gg, 0, none⟩) (V ++ [f]).length cap') (V ++ [f]).length ((V ++ [f]).flatMap frC) := by
          rw [List.length_append, List.flatMap_append]
          simpa [frC] using hown3
        go_roundw
        case rel => exact ⟨k + 1, some ⟨gg, 0, none⟩, cap', by go_num, by rw [N.out]; simp, by omega, hB6, by rw [N.out]; exact hown6⟩
        case measure => simp [intOf]; omega
      · rw [if_neg (by rw [hsn]; simp), List.append_nil] at N
        clear hsn
        go_wp2
        go_quiet (fail)
        go_wp2
        refine ⟨⟨k + 1, A, cp, by go_num, by rw [N.out], by omega, below_drewN HB.out _, by rw [N.out]; exact own_same OW.out (fun _ _ => rfl)⟩, by simp [intOf]; omega⟩
    · obtain rfl : k = n := by omega
      have e : L.take k = L := by rw [← HP.out.2.1]; exact List.take_length
      rw [e] at hown ⊢
      have OW := Lib.hid hown
      clear hown hlt e
      go_wp2
      go_ret
      exact ⟨_, rfl, own_base OW.out hs1, HT.out.2.trans (hBl.mono hs1)⟩
end Go.Proofs.Ytgdbjepddcmfoaa
