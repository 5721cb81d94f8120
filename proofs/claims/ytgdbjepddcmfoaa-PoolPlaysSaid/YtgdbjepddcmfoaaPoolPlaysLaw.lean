/- Whatever is taken, given, drained and undrained: each call is told as the document says, and so is what is free and what is taken behind it: the law PoolPlays answers true, at every input. -/
import Derived.Laws.StructEq
import Derived.Deep.QuietTactic
import Derived.BigQuiet
import Derived.Test.YtgdbjepddcmfoaaPoolAwake
import Derived.Test.YtgdbjepddcmfoaaPoolBoth
import Derived.Test.YtgdbjepddcmfoaaTopoFrame
import Derived.Test.YtgdbjepddcmfoaaTopoFrame
set_option linter.unusedVariables false
namespace Go.Proofs.Ytgdbjepddcmfoaa.poolPlays
open Go Go.ChangeShapes Go.WideShapes Go.ChangeAt Go.RowKit
set_option maxRecDepth 100000 in
set_option maxHeartbeats 4000000 in
theorem walk (a0 : Option Addr) (c0 : Nat) (n0 : List (List (Int × Int))) (a1 : Option Addr) (c1 : Nat) (n1 : List Ac) (a2 : Int) (w : World) (w0 : Nodes w w.heap.size a0 n0) (lc0 : n0.length ≤ c0) (mc0 : c0 ≤ maxLen)
    (w1 : Acts w w.heap.size a1 n1) (q1 : ∀ a ∈ n1, AcOk a) (lc1 : n1.length ≤ c1) (mc1 : c1 ≤ maxLen) (wx : (Lit.int .i64 a2).wf = true) :
    Calls Try.prog 3 #[.agg #[.slice a0 n0.length c0], .slice a1 n1.length c1, .int .i64 a2] w fun e w' => e = .returned (.bool true) ∧ Below w.heap.size w w' := by
  have hA := Lib.hid awake_any
  have k0 : (w.alloc (.cells #[.slice a0 n0.length c0] 24)).cell? ⟨w.heap.size, 0, none⟩ = some (.slice a0 n0.length c0) := by go_simp
  have hBa := (Below.refl w.heap.size w).alloc (Nat.le_refl _) (.cells #[.slice a0 n0.length c0] 24)
  unfold maxLen at mc0
  by_cases h40 : 40 < n0.length
  · have t40 : decide (40 < (n0.length : Int)) = true := by simp; omega
    clear w0 w1 q1 h40
    go_enter Try.func3, Try.ntmps3
    go_wp2_with (first
      | (go_at_call 4; refine (hA.out _).mono ?_; rintro e w2 ⟨rfl, hb2⟩; have hB2 := below_step hBa hb2; have k2 := (hb2.cell (p := ⟨w.heap.size, 0, none⟩) (by simp)).trans k0; have s2 := hb2.size; simp at s2))
    go_ret
    exact ⟨rfl, hB2⟩
  have t40 : decide (40 < (n0.length : Int)) = false := by simp; omega
  have hF0 := fun W (hW : Below w.heap.size w W) => fewacts_any a1 c1 w.heap.size n1 W (Acts.keep w1 hW) (by omega) (fun a ha => (q1 a ha).few)
  cases hf : fewA n1
  · rw [hf] at hF0
    have hF := Lib.hid hF0
    clear hf w0 w1 q1 hF0 h40
    go_enter Try.func3, Try.ntmps3
    go_wp2_with (first
      | (go_at_call 4; refine (hA.out _).mono ?_; rintro e w2 ⟨rfl, hb2⟩; have hB2 := below_step hBa hb2; have k2 := (hb2.cell (p := ⟨w.heap.size, 0, none⟩) (by simp)).trans k0; have s2 := hb2.size; simp at s2)
      | (go_at_call 5; refine (hF.out _ hB2).mono ?_; rintro e w' ⟨rfl, rfl⟩))
    go_ret
    exact ⟨rfl, hB2⟩
  rw [hf] at hF0
  have hF := Lib.hid hF0
  have hRt := Lib.hid (fun W (hW : Below w.heap.size w W) (r : Bool) (hr : cluOk n0 = r) => right_any a0 c0 w.heap.size n0 W (Nodes.keep w0 hW (Nat.le_refl _)) hW.size r hr)
  cases hok : cluOk n0
  · have hR := Lib.hid (fun W hW => hRt.out W hW false hok)
    have hN := Lib.hid (fun W (hW : Below w.heap.size w W) => poolnew_no a0 c0 w.heap.size n0 W (Nodes.keep w0 hW (Nat.le_refl _)) hW.size hok)
    clear hok w0 w1 q1 hRt hf hF0 h40
    go_enter Try.func3, Try.ntmps3
    go_wp2_with (first
      | (go_at_call 4; refine (hA.out _).mono ?_; rintro e w2 ⟨rfl, hb2⟩; have hB2 := below_step hBa hb2; have k2 := (hb2.cell (p := ⟨w.heap.size, 0, none⟩) (by simp)).trans k0; have s2 := hb2.size; simp at s2)
      | (go_at_call 5; refine (hF.out _ hB2).mono ?_; rintro e w' ⟨rfl, rfl⟩)
      | (go_at_call 6; refine (hN.out _ hB2).mono ?_; rintro e w3 ⟨rfl, hb3⟩; have hB3 := below_step hB2 hb3; have k3 := (hb3.cell (p := ⟨w.heap.size, 0, none⟩) (show w.heap.size < _ by omega)).trans k2; have s3 := hb3.size)
      | (go_at_call 7; refine (hR.out _ hB3).mono ?_; rintro e w4 ⟨rfl, hb4⟩; have hB4 := below_step hB3 hb4; have k4 := (hb4.cell (p := ⟨w.heap.size, 0, none⟩) (show w.heap.size < _ by omega)).trans k3; have s4 := hb4.size))
    go_ret
    exact ⟨rfl, hB4⟩
  have hR := Lib.hid (fun W hW => hRt.out W hW true hok)
  have hN := Lib.hid (fun W (hW : Below w.heap.size w W) => poolnew_ok a0 c0 w.heap.size n0 W (Nodes.keep w0 hW (Nat.le_refl _)) hW.size hok)
  have hD := Lib.hid (fun W (hW : Below w.heap.size w W) => refnew_any a0 c0 n0 W (Nodes.keep w0 hW hW.size) hok)
  have hFs := fsOk hok
  obtain ⟨m, hm⟩ : ∃ m, n0.length = m := ⟨_, rfl⟩
  obtain ⟨N, hN1⟩ : ∃ N, n1.length = N := ⟨_, rfl⟩
  have hfl : N ≤ 60 := by
    unfold fewA at hf; simp at hf; omega
  rw [hm] at k0 hBa hR hN hD hFs lc0 t40 ⊢
  rw [hN1] at hF lc1 ⊢
  have hm40 : m ≤ 40 := by omega
  obtain ⟨fs, hfs⟩ : ∃ fs, fs = frees n0 := ⟨_, rfl⟩
  rw [← hfs] at hN hD hFs
  obtain ⟨n, hn⟩ : ∃ n, fs.length = n := ⟨_, rfl⟩
  have hnfew : n ≤ 1000 := by rw [← hn]; exact hFs.few
  have Q := Lib.hid (And.intro hN1 (And.intro w1 (And.intro q1 (And.intro hFs (And.intro hn wx)))))
  clear hok hf w0 w1 hRt hF0 hm hN1 hFs q1 hfs hn wx h40
  go_enter Try.func3, Try.ntmps3
  go_wp2_with (first
    | (go_at_call 4; refine (hA.out _).mono ?_; rintro e w2 ⟨rfl, hb2⟩; have hB2 := below_step hBa hb2; have k2 := (hb2.cell (p := ⟨w.heap.size, 0, none⟩) (by simp)).trans k0; have s2 := hb2.size; simp at s2)
    | (go_at_call 5; refine (hF.out _ hB2).mono ?_; rintro e w' ⟨rfl, rfl⟩)
    | (go_at_call 6; refine (hN.out _ hB2).mono ?_; rintro e w3 ⟨T, p, g, dm, rfl, hp, hb3, p1, g1, d1, o1⟩; have HP := Lib.hid (And.intro hp o1); clear hp o1; have hB3 := below_step hB2 hb3; have k3 := (hb3.cell (p := ⟨w.heap.size, 0, none⟩) (show w.heap.size < _ by omega)).trans k2; have s3 := hb3.size)
    | (go_at_call 7; refine (hR.out _ hB3).mono ?_; rintro e w4 ⟨rfl, hb4⟩; have hB4 := below_step hB3 hb4; have k4 := (hb4.cell (p := ⟨w.heap.size, 0, none⟩) (show w.heap.size < _ by omega)).trans k3; have s4 := hb4.size)
    | (go_at_call 8; refine (hD.out _ hB4).mono ?_; rintro e w5 ⟨q, al, tk, db, ca, ct, cd, rfl, q5, al5, tk5, db5, hr5, hb5⟩; have HR5 := Lib.hid hr5; clear hr5; have hB5 := below_step hB4 hb5; have k5 := (hb5.cell (p := ⟨w.heap.size, 0, none⟩) (show w.heap.size < _ by omega)).trans k4; have s5 := hb5.size))
  have h5 := Both.made (sa := (PM.zero fs, List.replicate m false)) (sb := (PM.zero fs, List.replicate m false)) HP.out.1 (below_step (Below.refl _ _) hb4) HR5.out hb5 q5 al5 tk5 db5
  have hlow : w.heap.size < p ∧ w.heap.size < g ∧ w.heap.size < dm ∧ w.heap.size < q ∧ w.heap.size < al ∧ w.heap.size < tk ∧ w.heap.size < db := by omega
  obtain ⟨lp, lg, ldm, lq, lal, ltk, ldb⟩ := hlow
  have Z := Lib.hid (And.intro hB5 (And.intro k5 h5))
  clear h5 hB5 hB4 hb4 hB3 hb3 hB2 hb2 hBa k0 k2 k3 k4 k5 s2 s3 s4 s5 hA hR hF hN hD HP HR5 hb5 q5 al5 tk5 db5 p1 g1 d1 t40
  go_loopw [10] (fun i wr => ∃ k : Nat, i = .int .i64 k ∧ k ≤ N ∧ w.heap.size < wr.heap.size ∧ Hid (Below w.heap.size w wr ∧ wr.cell? ⟨w.heap.size, 0, none⟩ = some (.slice a0 m c0) ∧ ∃ g tk ct st, Both wr T p g dm q al tk db ca ct cd fs st st ∧ w.heap.size < g ∧ w.heap.size < tk ∧ st.2.length = m)) (fun i _ => N - (intOf i).toNat)
  case atStart => exact ⟨0, rfl, by omega, (by have := Z.out.2.2.a.lt; omega), Lib.hid ⟨Z.out.1, Z.out.2.1, g, tk, ct, _, Z.out.2.2, lg, ltk, by simp⟩⟩
  case round =>
    obtain ⟨k, rfl, hk, hsz, hin⟩ := hrel
    obtain ⟨hBr, kr, gg, tt, cc, st, hB, hgg, htt, hst⟩ := hin.out
    by_cases hlt : k < N
    · obtain ⟨hN1, w1, q1, hFs, hn, hwx⟩ := Q.out
      obtain ⟨a, hx⟩ := get_lt (l := n1) (k := k) (by rw [hN1]; exact hlt)
      obtain ⟨b, off, rfl, hb, hc⟩ := w1.at_ hx
      obtain ⟨As, cs, y0, y1, y2, hsl⟩ := hc k a hx
      have haok := q1 a (List.mem_of_getElem? hx)
      have hBd : Below w.heap.size w wr.drew := hBr.drew
      have x0 : wr.drew.cell? ⟨b, off + k * 3, none⟩ = _ := (hBd.cell (p := ⟨b, off + k * 3, none⟩) hb).trans y0
      have x1 : wr.drew.cell? ⟨b, off + k * 3 + 1, none⟩ = _ := (hBd.cell (p := ⟨b, off + k * 3 + 1, none⟩) hb).trans y1
      have x2 : wr.drew.cell? ⟨b, off + k * 3 + 2, none⟩ = _ := (hBd.cell (p := ⟨b, off + k * 3 + 2, none⟩) hb).trans y2
      have hoff : ∀ g, w.heap.size ≤ g → a.sl ≠ [] → Off As (· = g) := fun g hg hne b' off' e hb' => by
        rcases hsl with e0 | ⟨b2, o2, e2, hb2, _⟩
        · exact hne e0
        · cases e.symm.trans e2; have h9 : b' = g := hb'; omega
      have hBdr : Both wr.drew T p gg dm q al tt db ca cc cd fs st st := hB.keep (Below.refl _ wr).drew
      have hDo := do_at p gg dm fs st.1 st.2 As cs a wr.drew hBdr.a haok (Slots.keep hsl hBd hBd.size) (hoff gg (by omega))
      have hAc := fun W g8 sa (hW : Below w.heap.size w W) (h : Both W T p g8 dm q al tt db ca cc cd fs sa st) => refact_at q al tt db ca cc cd fs st.1 st.2 As cs a W h.b haok (Slots.keep hsl hW hW.size) (hoff tt (by omega))
      have hlen := act_len fs st a
      have t0 : decide (k < N) = true := by simpa using hlt
      obtain ⟨R, hR⟩ : ∃ R, R = act fs (st.1, st.2) a := ⟨_, rfl⟩
      rw [show act fs st a = R from hR.symm, hst] at hlen
      rw [← hR] at hDo
      simp only [← hR] at hAc
      obtain ⟨L, hL⟩ : ∃ L, L = PM.free fs R.2.1 := ⟨_, rfl⟩
      obtain ⟨V, hV⟩ : ∃ V, V = PM.view fs R.2.1 R.2.2 := ⟨_, rfl⟩
      have hFr := fun W g tk ct (h : Both W T p g dm q al tk db ca ct cd fs R.2 R.2) => free_row p g dm fs R.2.1 R.2.2 W h.a
      have hRf := fun W g tk ct (h : Both W T p g dm q al tk db ca ct cd fs R.2 R.2) => reffree_row q al tk db ca ct cd fs R.2.1 R.2.2 W h.b
      have hVw := fun W g tk ct (h : Both W T p g dm q al tk db ca ct cd fs R.2 R.2) => view_row p g dm fs R.2.1 R.2.2 W h.a
      have hRv := fun W g tk ct (h : Both W T p g dm q al tk db ca ct cd fs R.2 R.2) => refview_row q al tk db ca ct cd fs R.2.1 R.2.2 W h.b
      have hOt := fun W g tk ct (h : Both W T p g dm q al tk db ca ct cd fs R.2 R.2) => out_any p g dm fs R.2.1 R.2.2 W h.a
      have hCt := fun W g tk ct (h : Both W T p g dm q al tk db ca ct cd fs R.2 R.2) => refcount_row (some ⟨tk, 0, none⟩) ct R.2.1 W h.b.taken.frees (by rw [h.b.inv.1]; exact h.b.ok.few) (taken_ok h.b.ok h.b.inv)
      have hTl : ∀ W g tk ct, Both W T p g dm q al tk db ca ct cd fs R.2 R.2 → R.2.1.length = n := fun W g tk ct h => by rw [h.b.inv.1]; exact hn
      have hLl : ∀ W g tk ct, Both W T p g dm q al tk db ca ct cd fs R.2 R.2 → L.length ≤ 1000 ∧ V.length ≤ 1000 := fun W g tk ct h => by
        rw [hL, hV]; exact ⟨by rw [PM.free_len h.b.inv]; exact h.b.ok.few, (h.a.ok.viewOk h.a.inv).1⟩
      have hDn := fun W g tk ct (h : Both W T p g dm q al tk db ca ct cd fs R.2 R.2) => drained_any p g dm fs R.2.1 R.2.2 a2 W h.a hwx
      simp only [← hL] at hFr hRf
      simp only [← hV] at hVw hRv
      have HDo := Lib.hid hDo; have HAc := Lib.hid hAc; have HFr := Lib.hid hFr; have HRf := Lib.hid hRf; have HVw := Lib.hid hVw; have HRv := Lib.hid hRv
      have HOt := Lib.hid hOt; have HCt := Lib.hid hCt; have HDn := Lib.hid hDn; have HLl := Lib.hid hLl; have HTl := Lib.hid hTl
      have HBr := Lib.hid (And.intro hBd (And.intro hBdr (And.intro hlen kr)))
      obtain ⟨r1, hr1⟩ : ∃ r1, r1 = R.1 := ⟨_, rfl⟩
      obtain ⟨gT, hgT⟩ : ∃ x, x = gsum R.2.1 := ⟨_, rfl⟩
      obtain ⟨cT, hcT⟩ : ∃ x, x = csum R.2.1 := ⟨_, rfl⟩
      rw [← hr1] at HDo HAc
      rw [← hgT, ← hcT] at HOt HCt
      obtain ⟨kind, node, sl⟩ := a
      simp only at *
      obtain ⟨sn, hsn⟩ : ∃ sn, sn = sl.length := ⟨_, rfl⟩
      rw [← hsn] at x2 HDo HAc
      have HY := Lib.hid (And.intro x0 (And.intro x1 x2))
      clear hN1 w1 q1 hFs hn hwx hx hc y0 y1 y2 hsl haok hBd hoff hBdr hDo hAc hFr hRf hVw hRv hOt hCt hTl hLl hDn hL hV hR hr1 hgT hcT hsn hBr kr hB hst hlen hin
      go_wp2_with fail
      refine held_begin (fun w' : World => w'.cell? ⟨b, off + k * 3, none⟩ = some (.int .i64 kind) ∧ w'.cell? ⟨b, off + k * 3 + 1, none⟩ = some (.int .i64 node) ∧ w'.cell? ⟨b, off + k * 3 + 2, none⟩ = some (.slice As sn cs)) (by kernel_rfl) ?_
      have hS0 : (fun w' : World => w'.cell? ⟨b, off + k * 3, none⟩ = some (.int .i64 kind) ∧ w'.cell? ⟨b, off + k * 3 + 1, none⟩ = some (.int .i64 node) ∧ w'.cell? ⟨b, off + k * 3 + 2, none⟩ = some (.slice As sn cs)) wr.drew := ⟨x0, x1, x2⟩
      refine held_take (v := ?_) 0 50 rfl rfl (by kernel_rfl) (by kernel_rfl) (by kernel_rfl) (fun _ _ _ h => h) ⟨by rfl, ?_⟩ hS0 ?_
      rotate_left
      · intro w' hw'; obtain ⟨z0, z1, z2⟩ := hw'; go_simp; (try with_reducible rfl)
      simp only [Act.put, List.setIfInBounds_toArray, List.set_cons_zero, List.set_cons_succ]
      refine held_take (v := ?_) 1 51 rfl rfl (by kernel_rfl) (by kernel_rfl) (by kernel_rfl) (fun _ _ _ h => h) ⟨by rfl, ?_⟩ hS0 ?_
      rotate_left
      · intro w' hw'; obtain ⟨z0, z1, z2⟩ := hw'; go_simp; (try with_reducible rfl)
      simp only [Act.put, List.setIfInBounds_toArray, List.set_cons_zero, List.set_cons_succ]
      refine held_take (v := ?_) 2 52 rfl rfl (by kernel_rfl) (by kernel_rfl) (by kernel_rfl) (fun _ _ _ h => h) ⟨by rfl, ?_⟩ hS0 ?_
      rotate_left
      · intro w' hw'; obtain ⟨z0, z1, z2⟩ := hw'; go_simp; (try with_reducible rfl)
      simp only [Act.put, List.setIfInBounds_toArray, List.set_cons_zero, List.set_cons_succ]
      refine held_take (v := ?_) 3 53 rfl rfl (by kernel_rfl) (by kernel_rfl) (by kernel_rfl) (fun _ _ _ h => h) ⟨by rfl, ?_⟩ hS0 ?_
      rotate_left
      · intro w' hw'; obtain ⟨z0, z1, z2⟩ := hw'; go_simp; (try with_reducible rfl)
      simp only [Act.put, List.setIfInBounds_toArray, List.set_cons_zero, List.set_cons_succ]
      refine held_take (v := ?_) 4 54 rfl rfl (by kernel_rfl) (by kernel_rfl) (by kernel_rfl) (fun _ _ _ h => h) ⟨by rfl, ?_⟩ hS0 ?_
      rotate_left
      · intro w' hw'; obtain ⟨z0, z1, z2⟩ := hw'; go_simp; (try with_reducible rfl)
      simp only [Act.put, List.setIfInBounds_toArray, List.set_cons_zero, List.set_cons_succ]
      refine held_take (v := ?_) 6 56 rfl rfl (by kernel_rfl) (by kernel_rfl) (by kernel_rfl) (fun _ _ _ h => h) ⟨by rfl, ?_⟩ hS0 ?_
      rotate_left
      · intro w' hw'; obtain ⟨z0, z1, z2⟩ := hw'; go_simp; (try with_reducible rfl)
      simp only [Act.put, List.setIfInBounds_toArray, List.set_cons_zero, List.set_cons_succ]
      refine held_take (v := ?_) 7 57 rfl rfl (by kernel_rfl) (by kernel_rfl) (by kernel_rfl) (fun _ _ _ h => h) ⟨by rfl, ?_⟩ hS0 ?_
      rotate_left
      · intro w' hw'; obtain ⟨z0, z1, z2⟩ := hw'; go_simp; (try with_reducible rfl)
      simp only [Act.put, List.setIfInBounds_toArray, List.set_cons_zero, List.set_cons_succ]
      refine held_take (v := ?_) 8 58 rfl rfl (by kernel_rfl) (by kernel_rfl) (by kernel_rfl) (fun _ _ _ h => h) ⟨by rfl, ?_⟩ hS0 ?_
      rotate_left
      · intro w' hw'; obtain ⟨z0, z1, z2⟩ := hw'; go_simp; (try with_reducible rfl)
      simp only [Act.put, List.setIfInBounds_toArray, List.set_cons_zero, List.set_cons_succ]
      refine held_take (v := ?_) 9 59 rfl rfl (by kernel_rfl) (by kernel_rfl) (by kernel_rfl) (fun _ _ _ h => h) ⟨by rfl, ?_⟩ hS0 ?_
      rotate_left
      · intro w' hw'; obtain ⟨z0, z1, z2⟩ := hw'; go_simp; (try with_reducible rfl)
      simp only [Act.put, List.setIfInBounds_toArray, List.set_cons_zero, List.set_cons_succ]
      refine held_take (v := ?_) 10 60 rfl rfl (by kernel_rfl) (by kernel_rfl) (by kernel_rfl) (fun _ _ _ h => h) ⟨by rfl, ?_⟩ hS0 ?_
      rotate_left
      · intro w' hw'; obtain ⟨z0, z1, z2⟩ := hw'; go_simp; (try with_reducible rfl)
      simp only [Act.put, List.setIfInBounds_toArray, List.set_cons_zero, List.set_cons_succ]
      refine held_one 5 rfl (by kernel_rfl) (by rfl) (fun K hK => ?_)
      go_simp
      go_at_call 9
      refine (HDo.out).mono ?_
      rintro e w8 ⟨rfl, g8, hp8, hg8, hf8⟩
      have H8 := Lib.hid (HBr.out.2.1.does (sa' := R.2) hp8 hf8 hg8)
      have s8 := hf8.size
      have s8' : wr.heap.size ≤ w8.heap.size := s8
      clear s8
      have hB8 := HBr.out.1.trans (hf8.below HBr.out.1.size (by rintro i (rfl | rfl | rfl) <;> omega))
      have hb08 := hf8.below (B := w.heap.size) HBr.out.1.size (by rintro i (rfl | rfl | rfl) <;> omega)
      have hS8 : (fun w' : World => w'.cell? ⟨b, off + k * 3, none⟩ = some (.int .i64 kind) ∧ w'.cell? ⟨b, off + k * 3 + 1, none⟩ = some (.int .i64 node) ∧ w'.cell? ⟨b, off + k * 3 + 2, none⟩ = some (.slice As sn cs)) w8 := ⟨(hb08.cell (p := ⟨b, off + k * 3, none⟩) (show b < _ by omega)).trans hS0.1, (hb08.cell (p := ⟨b, off + k * 3 + 1, none⟩) (show b < _ by omega)).trans hS0.2.1, (hb08.cell (p := ⟨b, off + k * 3 + 2, none⟩) (show b < _ by omega)).trans hS0.2.2⟩
      have HB8 := Lib.hid (And.intro hB8 hb08)
      have HK8 : Hid (w8.cell? ⟨w.heap.size, 0, none⟩ = some (.slice a0 m c0)) := Lib.hid ((hf8.cell (p := ⟨w.heap.size, 0, none⟩) (show w.heap.size < wr.heap.size from hsz) (show ¬ (w.heap.size = p ∨ w.heap.size = gg ∨ w.heap.size = dm) by omega)).trans HBr.out.2.2.2)
      have g8w : w.heap.size < g8 := by rcases hg8 with e | e; omega; have e' : wr.heap.size ≤ g8 := e; omega
      clear hp8 hg8 hf8 hB8 hb08
      refine hK.out _ _ hS8 ?_
      clear hK K
      refine held_one 11 rfl (by kernel_rfl) (by rfl) (fun K hK => ?_)
      go_simp
      go_at_call 10
      refine (HAc.out w8 g8 _ HB8.out.1 H8.out).mono ?_
      rintro e w9 ⟨rfl, tk9, ct9, hp9, hg9, hf9⟩
      have h9 := H8.out.acts (sb' := R.2) hp9 hf9 hg9
      have s9 := hf9.size
      have hb09 := hf9.below (B := w.heap.size) HB8.out.1.size (by rintro i (rfl | rfl | rfl) <;> omega)
      have hB9 := HB8.out.1.trans hb09
      have tk9w : w.heap.size < tk9 := by have := HB8.out.1.size; rcases hg9 with e | e <;> omega
      have hq9 := h9.b.heads.2.1
      have hl9 := h9.b.lt.1
      rw [show fs.length = n from (h9.b.inv.1 ▸ HTl.out _ _ _ _ h9)] at hq9
      have hS9 : (fun w' : World => w'.cell? ⟨q, 1, none⟩ = some (.slice (some ⟨tk9, 0, none⟩) n ct9) ∧ w'.cell? ⟨b, off + k * 3, none⟩ = some (.int .i64 kind) ∧ w'.cell? ⟨b, off + k * 3 + 1, none⟩ = some (.int .i64 node) ∧ w'.cell? ⟨b, off + k * 3 + 2, none⟩ = some (.slice As sn cs)) w9 := ⟨hq9, (hb09.cell (p := ⟨b, off + k * 3, none⟩) (show b < _ by omega)).trans hS8.1, (hb09.cell (p := ⟨b, off + k * 3 + 1, none⟩) (show b < _ by omega)).trans hS8.2.1, (hb09.cell (p := ⟨b, off + k * 3 + 2, none⟩) (show b < _ by omega)).trans hS8.2.2⟩
      have H9 := Lib.hid h9
      have HS9 := Lib.hid (fun W (hW : Below w9.heap.size w9 W) => (show (fun w' : World => w'.cell? ⟨q, 1, none⟩ = some (.slice (some ⟨tk9, 0, none⟩) n ct9) ∧ w'.cell? ⟨b, off + k * 3, none⟩ = some (.int .i64 kind) ∧ w'.cell? ⟨b, off + k * 3 + 1, none⟩ = some (.int .i64 node) ∧ w'.cell? ⟨b, off + k * 3 + 2, none⟩ = some (.slice As sn cs)) W from ⟨(hW.cell (p := ⟨q, 1, none⟩) hl9).trans hS9.1, (hW.cell (p := ⟨b, off + k * 3, none⟩) (show b < _ by omega)).trans hS9.2.1, (hW.cell (p := ⟨b, off + k * 3 + 1, none⟩) (show b < _ by omega)).trans hS9.2.2.1, (hW.cell (p := ⟨b, off + k * 3 + 2, none⟩) (show b < _ by omega)).trans hS9.2.2.2⟩))
      have HB9 := Lib.hid (And.intro hB9 ((hf9.cell (p := ⟨w.heap.size, 0, none⟩) (show w.heap.size < w8.heap.size by omega) (show ¬ (w.heap.size = q ∨ w.heap.size = tt ∨ w.heap.size = db) by omega)).trans HK8.out))
      clear h9 hp9 hg9 hf9 hb09 hB9 hq9 hl9
      refine hK.out _ _ ⟨hS9.2.1, hS9.2.2.1, hS9.2.2.2⟩ ?_
      clear hK K
      refine held_more (S' := (fun w' : World => w'.cell? ⟨q, 1, none⟩ = some (.slice (some ⟨tk9, 0, none⟩) n ct9) ∧ w'.cell? ⟨b, off + k * 3, none⟩ = some (.int .i64 kind) ∧ w'.cell? ⟨b, off + k * 3 + 1, none⟩ = some (.int .i64 node) ∧ w'.cell? ⟨b, off + k * 3 + 2, none⟩ = some (.slice As sn cs))) (fun _ h => h.2) _ _ _ _ ?_
      refine held_take (v := ?_) 12 62 rfl rfl (by kernel_rfl) (by kernel_rfl) (by kernel_rfl) (fun _ _ _ h => h) ⟨by rfl, ?_⟩ hS9 ?_
      rotate_left
      · intro w' hw'; obtain ⟨z9, z0, z1, z2⟩ := hw'; go_simp; (try with_reducible rfl)
      simp only [Act.put, List.setIfInBounds_toArray, List.set_cons_zero, List.set_cons_succ]
      refine held_take (v := ?_) 13 63 rfl rfl (by kernel_rfl) (by kernel_rfl) (by kernel_rfl) (fun _ _ _ h => h) ⟨by rfl, ?_⟩ hS9 ?_
      rotate_left
      · intro w' hw'; obtain ⟨z9, z0, z1, z2⟩ := hw'; go_simp; (try with_reducible rfl)
      simp only [Act.put, List.setIfInBounds_toArray, List.set_cons_zero, List.set_cons_succ]
      refine held_take (v := ?_) 14 64 rfl rfl (by kernel_rfl) (by kernel_rfl) (by kernel_rfl) (fun _ _ _ h => h) ⟨by rfl, ?_⟩ hS9 ?_
      rotate_left
      · intro w' hw'; obtain ⟨z9, z0, z1, z2⟩ := hw'; go_simp; (try with_reducible rfl)
      simp only [Act.put, List.setIfInBounds_toArray, List.set_cons_zero, List.set_cons_succ]
      refine held_take (v := ?_) 16 66 rfl rfl (by kernel_rfl) (by kernel_rfl) (by kernel_rfl) (fun _ _ _ h => h) ⟨by rfl, ?_⟩ hS9 ?_
      rotate_left
      · intro w' hw'; obtain ⟨z9, z0, z1, z2⟩ := hw'; go_simp; (try with_reducible rfl)
      simp only [Act.put, List.setIfInBounds_toArray, List.set_cons_zero, List.set_cons_succ]
      refine held_one 15 rfl (by kernel_rfl) (by rfl) (fun K hK => ?_)
      go_simp
      go_at_call 12
      refine (HFr.out _ _ _ _ H9.out).mono ?_
      rintro e w10 ⟨rfl, hr10, hb10⟩
      have HR10 := Lib.hid hr10
      clear hr10
      have hB10 := hb10
      have hS10 := HS9.out w10 hB10
      refine hK.out _ _ hS10 ?_
      clear hK K
      refine held_one 17 rfl (by kernel_rfl) (by rfl) (fun K hK => ?_)
      go_simp
      go_at_call 13
      refine (HRf.out _ _ _ _ (H9.out.keep hB10)).mono ?_
      rintro e w11 ⟨A11, c11, rfl, hr11, hb11⟩
      have HR11 := Lib.hid (And.intro (HR10.out.keep hb11 hb11.size) hr11)
      clear hr11
      have hB11 := below_step hB10 hb11
      have hS11 := HS9.out w11 hB11
      refine hK.out _ _ hS11 ?_
      clear hK K
      refine held_one 18 rfl (by kernel_rfl) (by rfl) (fun K hK => ?_)
      go_simp
      go_at_call 11
      refine (same_any _ _ _ _ L w11 HR11.out.1 HR11.out.2 (HLl.out _ _ _ _ H9.out).1).mono ?_
      rintro e w12 ⟨rfl, hb12⟩
      have hB12 := below_step hB11 hb12
      have hS12 := HS9.out w12 hB12
      refine hK.out _ _ hS12 ?_
      clear hK K
      refine held_take (v := ?_) 19 69 rfl rfl (by kernel_rfl) (by kernel_rfl) (by kernel_rfl) (fun _ _ _ h => h) ⟨by rfl, ?_⟩ hS12 ?_
      rotate_left
      · intro w' hw'; obtain ⟨z9, z0, z1, z2⟩ := hw'; go_simp; (try with_reducible rfl)
      simp only [Act.put, List.setIfInBounds_toArray, List.set_cons_zero, List.set_cons_succ]
      refine held_take (v := ?_) 20 70 rfl rfl (by kernel_rfl) (by kernel_rfl) (by kernel_rfl) (fun _ _ _ h => h) ⟨by rfl, ?_⟩ hS12 ?_
      rotate_left
      · intro w' hw'; obtain ⟨z9, z0, z1, z2⟩ := hw'; go_simp; (try with_reducible rfl)
      simp only [Act.put, List.setIfInBounds_toArray, List.set_cons_zero, List.set_cons_succ]
      refine held_take (v := ?_) 21 71 rfl rfl (by kernel_rfl) (by kernel_rfl) (by kernel_rfl) (fun _ _ _ h => h) ⟨by rfl, ?_⟩ hS12 ?_
      rotate_left
      · intro w' hw'; obtain ⟨z9, z0, z1, z2⟩ := hw'; go_simp; (try with_reducible rfl)
      simp only [Act.put, List.setIfInBounds_toArray, List.set_cons_zero, List.set_cons_succ]
      refine held_take (v := ?_) 22 72 rfl rfl (by kernel_rfl) (by kernel_rfl) (by kernel_rfl) (fun _ _ _ h => h) ⟨by rfl, ?_⟩ hS12 ?_
      rotate_left
      · intro w' hw'; obtain ⟨z9, z0, z1, z2⟩ := hw'; go_simp; (try with_reducible rfl)
      simp only [Act.put, List.setIfInBounds_toArray, List.set_cons_zero, List.set_cons_succ]
      refine held_take (v := ?_) 24 74 rfl rfl (by kernel_rfl) (by kernel_rfl) (by kernel_rfl) (fun _ _ _ h => h) ⟨by rfl, ?_⟩ hS12 ?_
      rotate_left
      · intro w' hw'; obtain ⟨z9, z0, z1, z2⟩ := hw'; go_simp; (try with_reducible rfl)
      simp only [Act.put, List.setIfInBounds_toArray, List.set_cons_zero, List.set_cons_succ]
      refine held_one 23 rfl (by kernel_rfl) (by rfl) (fun K hK => ?_)
      go_simp
      go_at_call 14
      refine (HVw.out _ _ _ _ (H9.out.keep hB12)).mono ?_
      rintro e w13 ⟨A13, c13, rfl, hr13, hb13⟩
      have HR13 := Lib.hid hr13
      clear hr13
      have hB13 := below_step hB12 hb13
      have hS13 := HS9.out w13 hB13
      refine hK.out _ _ hS13 ?_
      clear hK K
      refine held_one 25 rfl (by kernel_rfl) (by rfl) (fun K hK => ?_)
      go_simp
      go_at_call 15
      refine (HRv.out _ _ _ _ (H9.out.keep hB13)).mono ?_
      rintro e w14 ⟨A14, c14, rfl, hr14, hb14⟩
      have HR14 := Lib.hid (And.intro (HR13.out.keep hb14 hb14.size) hr14)
      clear hr14
      have hB14 := below_step hB13 hb14
      have hS14 := HS9.out w14 hB14
      refine hK.out _ _ hS14 ?_
      clear hK K
      refine held_one 26 rfl (by kernel_rfl) (by rfl) (fun K hK => ?_)
      go_simp
      go_at_call 11
      refine (same_any _ _ _ _ V w14 HR14.out.1 HR14.out.2 (HLl.out _ _ _ _ H9.out).2).mono ?_
      rintro e w15 ⟨rfl, hb15⟩
      have hB15 := below_step hB14 hb15
      have hS15 := HS9.out w15 hB15
      refine hK.out _ _ hS15 ?_
      clear hK K
      refine held_take (v := ?_) 27 77 rfl rfl (by kernel_rfl) (by kernel_rfl) (by kernel_rfl) (fun _ _ _ h => h) ⟨by rfl, ?_⟩ hS15 ?_
      rotate_left
      · intro w' hw'; obtain ⟨z9, z0, z1, z2⟩ := hw'; go_simp; (try with_reducible rfl)
      simp only [Act.put, List.setIfInBounds_toArray, List.set_cons_zero, List.set_cons_succ]
      refine held_take (v := ?_) 28 78 rfl rfl (by kernel_rfl) (by kernel_rfl) (by kernel_rfl) (fun _ _ _ h => h) ⟨by rfl, ?_⟩ hS15 ?_
      rotate_left
      · intro w' hw'; obtain ⟨z9, z0, z1, z2⟩ := hw'; go_simp; (try with_reducible rfl)
      simp only [Act.put, List.setIfInBounds_toArray, List.set_cons_zero, List.set_cons_succ]
      refine held_take (v := ?_) 29 79 rfl rfl (by kernel_rfl) (by kernel_rfl) (by kernel_rfl) (fun _ _ _ h => h) ⟨by rfl, ?_⟩ hS15 ?_
      rotate_left
      · intro w' hw'; obtain ⟨z9, z0, z1, z2⟩ := hw'; go_simp; (try with_reducible rfl)
      simp only [Act.put, List.setIfInBounds_toArray, List.set_cons_zero, List.set_cons_succ]
      refine held_take (v := ?_) 30 80 rfl rfl (by kernel_rfl) (by kernel_rfl) (by kernel_rfl) (fun _ _ _ h => h) ⟨by rfl, ?_⟩ hS15 ?_
      rotate_left
      · intro w' hw'; obtain ⟨z9, z0, z1, z2⟩ := hw'; go_simp; (try with_reducible rfl)
      simp only [Act.put, List.setIfInBounds_toArray, List.set_cons_zero, List.set_cons_succ]
      refine held_take (v := ?_) 32 82 rfl rfl (by kernel_rfl) (by kernel_rfl) (by kernel_rfl) (fun _ _ _ h => h) ⟨by rfl, ?_⟩ hS15 ?_
      rotate_left
      · intro w' hw'; obtain ⟨z9, z0, z1, z2⟩ := hw'; go_simp; (try with_reducible rfl)
      simp only [Act.put, List.setIfInBounds_toArray, List.set_cons_zero, List.set_cons_succ]
      refine held_take (v := ?_) 33 83 rfl rfl (by kernel_rfl) (by kernel_rfl) (by kernel_rfl) (fun _ _ _ h => h) ⟨by rfl, ?_⟩ hS15 ?_
      rotate_left
      · intro w' hw'; obtain ⟨z9, z0, z1, z2⟩ := hw'; go_simp; (try with_reducible rfl)
      simp only [Act.put, List.setIfInBounds_toArray, List.set_cons_zero, List.set_cons_succ]
      refine held_take (v := ?_) 34 84 rfl rfl (by kernel_rfl) (by kernel_rfl) (by kernel_rfl) (fun _ _ _ h => h) ⟨by rfl, ?_⟩ hS15 ?_
      rotate_left
      · intro w' hw'; obtain ⟨z9, z0, z1, z2⟩ := hw'; go_simp; (try with_reducible rfl)
      simp only [Act.put, List.setIfInBounds_toArray, List.set_cons_zero, List.set_cons_succ]
      refine held_take (v := ?_) 35 85 rfl rfl (by kernel_rfl) (by kernel_rfl) (by kernel_rfl) (fun _ _ _ h => h) ⟨by rfl, ?_⟩ hS15 ?_
      rotate_left
      · intro w' hw'; obtain ⟨z9, z0, z1, z2⟩ := hw'; go_simp; (try with_reducible rfl)
      simp only [Act.put, List.setIfInBounds_toArray, List.set_cons_zero, List.set_cons_succ]
      refine held_one 31 rfl (by kernel_rfl) (by rfl) (fun K hK => ?_)
      go_simp
      go_at_call 16
      refine (HOt.out _ _ _ _ (H9.out.keep hB15)).mono ?_
      rintro e w16 ⟨rfl, hb16⟩
      have hB16 := below_step hB15 hb16
      have hS16 := HS9.out w16 hB16
      refine hK.out _ _ hS16 ?_
      clear hK K
      have HCt9 := Lib.hid (fun W (h : Both W T p g8 dm q al tk9 db ca ct9 cd fs R.2 R.2) => (show Calls _ _ #[.slice (some ⟨tk9, 0, none⟩) n ct9] _ _ from (HTl.out _ _ _ _ h) ▸ HCt.out W g8 tk9 ct9 h))
      refine held_one 36 rfl (by kernel_rfl) (by rfl) (fun K hK => ?_)
      go_simp
      go_at_call 17
      refine (HCt9.out _ (H9.out.keep hB16)).mono ?_
      rintro e w17 ⟨rfl, hb17⟩
      have hB17 := below_step hB16 hb17
      have hS17 := HS9.out w17 hB17
      refine hK.out _ _ hS17 ?_
      clear hK K
      have hun := units_neq (gT : Int) (cT : Int)
      refine held_take (v := ?_) 37 87 rfl rfl (by kernel_rfl) (by kernel_rfl) (by kernel_rfl) (fun _ _ _ h => h) ⟨by rfl, ?_⟩ hS17 ?_
      rotate_left
      · intro w' hw'; obtain ⟨z9, z0, z1, z2⟩ := hw'; go_simp; (try with_reducible rfl)
      simp only [Act.put, List.setIfInBounds_toArray, List.set_cons_zero, List.set_cons_succ]
      refine held_take (v := ?_) 38 88 rfl rfl (by kernel_rfl) (by kernel_rfl) (by kernel_rfl) (fun _ _ _ h => h) ⟨by rfl, ?_⟩ hS17 ?_
      rotate_left
      · intro w' hw'; obtain ⟨z9, z0, z1, z2⟩ := hw'; go_simp; (try with_reducible rfl)
      simp only [Act.put, List.setIfInBounds_toArray, List.set_cons_zero, List.set_cons_succ]
      clear hun
      refine wpAnyH_done (by kernel_rfl) ?_ _
      have h17 := H9.out.keep hB17
      have kr17 : w17.cell? ⟨w.heap.size, 0, none⟩ = some (.slice a0 m c0) := (hB17.cell (p := ⟨w.heap.size, 0, none⟩) (show w.heap.size < w9.heap.size by omega)).trans HB9.out.2
      have hlen := HBr.out.2.2.1
      have hD17 := HDn.out _ _ _ _ h17
      have hq17 := h17.b.heads.2.2
      simp only [hlen] at hq17
      have HF := Lib.hid (And.intro (HB9.out.1.trans (hB17.mono HB9.out.1.size)) (And.intro kr17 (And.intro h17 hlen)))
      have s17 : w.heap.size < w17.heap.size := by have := hB17.size; omega
      have hm17 := hm40
      by_cases hx0 : a2 < 0
      · have e : isDr R.2.2 a2 = false := by unfold isDr; simp; omega
        rw [e] at hD17
        have HD := Lib.hid hD17
        have t1 : decide (0 ≤ a2) = false := by simp; omega
        clear hD17 e hx0 hlen h17 hB17 hB16 hB15 hB14 hB13 hB12 hB11 hB10 hb17 hb16 hb15 hb14 hb13 hb12 hb11 hb10 hS17 hS16 hS15 hS14 hS13 hS12 hS11 hS10 hS9 hS8 hS0 hq17
        go_wp2_with (go_at_call 18; refine HD.out.mono ?_; rintro e w' ⟨rfl, rfl⟩)
        go_roundw
        case rel => exact ⟨k + 1, by go_num, by omega, s17, Lib.hid ⟨HF.out.1, HF.out.2.1, g8, tk9, ct9, R.2, HF.out.2.2.1, g8w, tk9w, HF.out.2.2.2⟩⟩
        case measure => simp [intOf]; omega
      obtain ⟨j, rfl⟩ : ∃ j : Nat, a2 = j := ⟨a2.toNat, by omega⟩
      have t1 : decide (0 ≤ (j : Int)) = true := by simp
      by_cases hxm : m ≤ j
      · have e : isDr R.2.2 (j : Int) = false := by rw [isDr_nat, List.getElem?_eq_none (by omega)]; rfl
        rw [e] at hD17
        have HD := Lib.hid hD17
        have t2 : decide (j < m) = false := by simp; omega
        clear hD17 e hx0 hxm hlen h17 hB17 hB16 hB15 hB14 hB13 hB12 hB11 hB10 hb17 hb16 hb15 hb14 hb13 hb12 hb11 hb10 hS17 hS16 hS15 hS14 hS13 hS12 hS11 hS10 hS9 hS8 hS0 hq17
        go_wp2_with (go_at_call 18; refine HD.out.mono ?_; rintro e w' ⟨rfl, rfl⟩)
        go_roundw
        case rel => exact ⟨k + 1, by go_num, by omega, s17, Lib.hid ⟨HF.out.1, HF.out.2.1, g8, tk9, ct9, R.2, HF.out.2.2.1, g8w, tk9w, HF.out.2.2.2⟩⟩
        case measure => simp [intOf]; omega
      · have hjm : j < m := by omega
        obtain ⟨bb, hbb⟩ := get_lt (l := R.2.2) (k := j) (by rw [hlen]; exact hjm)
        have e : isDr R.2.2 (j : Int) = bb := by rw [isDr_nat, hbb]; rfl
        rw [e] at hD17
        have hbit := (h17.b.bit hbb).1
        have HD := Lib.hid hD17
        have t2 : decide (j < m) = true := by simpa using hjm
        clear hD17 e hx0 hxm hlen h17 hB17 hB16 hB15 hB14 hB13 hB12 hB11 hB10 hb17 hb16 hb15 hb14 hb13 hb12 hb11 hb10 hS17 hS16 hS15 hS14 hS13 hS12 hS11 hS10 hS9 hS8 hS0 hbb
        cases bb
        all_goals
          go_wp2_with (go_at_call 18; refine HD.out.mono ?_; rintro e w' ⟨rfl, rfl⟩)
          go_roundw
          case rel => exact ⟨k + 1, by go_num, by omega, s17, Lib.hid ⟨HF.out.1, HF.out.2.1, g8, tk9, ct9, R.2, HF.out.2.2.1, g8w, tk9w, HF.out.2.2.2⟩⟩
          case measure => simp [intOf]; omega
    · obtain rfl : k = N := by omega
      obtain ⟨L, hL⟩ : ∃ L, L = PM.free fs st.1 := ⟨_, rfl⟩
      have hFr := free_row p gg dm fs st.1 st.2 wr hB.a
      have hRf := fun W (hW : Below wr.heap.size wr W) => reffree_row q al tt db ca cc cd fs st.1 st.2 W (hB.b.keep hW)
      have hLl : L.length ≤ 1000 := by rw [hL, PM.free_len hB.b.inv]; exact hB.b.ok.few
      simp only [← hL] at hFr hRf
      have HFr := Lib.hid hFr
      have HRf := Lib.hid hRf
      have HBr := Lib.hid hBr
      clear hFr hRf hL hBr kr hB hst hin hlt
      go_wp2_with (first
        | (go_at_call 12; refine HFr.out.mono ?_; rintro e w10 ⟨rfl, hr10, hb10⟩; have HR10 := Lib.hid hr10; clear hr10)
        | (go_at_call 13; refine (HRf.out _ hb10).mono ?_; rintro e w11 ⟨A11, c11, rfl, hr11, hb11⟩; have HR11 := Lib.hid (And.intro (HR10.out.keep hb11 hb11.size) hr11); clear hr11)
        | (go_at_call 11; refine (same_any _ _ _ _ L w11 HR11.out.1 HR11.out.2 hLl).mono ?_; rintro e w12 ⟨rfl, hb12⟩))
      go_ret
      exact ⟨rfl, HBr.out.trans ((below_step (below_step hb10 hb11) hb12).mono HBr.out.size)⟩

set_option maxRecDepth 100000 in
theorem lifted (os : Os) (started : os.Started) (H : Type) (enc : TypeId × Value → H) :
    ReturnsInHanded {} Try.checked os 3 .any (Rows.poolPlaysSpec.pre6 enc Try.prog Try.f3 Rows.poolPlaysRow.domain false) (Rows.poolPlaysSpec.post enc Try.prog Try.f3 false true false false) := by
  refine returnsInHanded_of_change (C := Try.checked) own started (by kernel_rfl) Try.func3
    (ChangeSpec.witness6 (enc := enc) (C := Try.checked) false ⟨#[], #[.agg #[.slice none 0 0], .slice none 0 0, .int .i64 0], []⟩ 8 (by kernel_rfl) (by kernel_rfl) (by kernel_rfl) (by kernel_rfl)) ?_
  intro W base args ds gs before hval0 hW _ _
  have hval : ∀ (j : Nat) t v, Try.f3.params[j]? = some t → args[j]? = some v → Value.okWide Try.prog W .any base t v := hval0
  have hW' := hW
  obtain ⟨p, q, hA0, hV, rfl, hfz, hnd⟩ := hW
  have hA : DataW.TrodAll enc Try.prog W 0 (fun _ => true) true Try.f3.params.toList args.toList ds p := hA0
  rw [Try.params3] at hA hval
  obtain ⟨v0, vs0, d0, ds0, p0, q0, hargs, rfl, rfl, h0, r0⟩ := trodAll_cons hA
  obtain ⟨v1, vs1, d1, ds1, p1, q1, rfl, rfl, rfl, h1, r1⟩ := trodAll_cons r0
  obtain ⟨v2, vs2, d2, ds2, p2, q2, rfl, rfl, rfl, h2, r2⟩ := trodAll_cons r1
  obtain ⟨rfl, rfl, rfl⟩ := trodAll_nil r2
  obtain rfl : args = #[v0, v1, v2] := by cases args; simp_all
  obtain ⟨rfl, rfl⟩ := trodVars_none hV
  have k0 := h0
  have lt0 : ∀ x ∈ p0, x.block < W.heap.size := by obtain ⟨m, hm⟩ := k0; exact DataW.trod_lt m _ _ _ hm
  obtain ⟨a0, c0, n0, rfl, lc0, mc0, w0⟩ := clu_of (hval 0 24 v0 rfl rfl) h0
  have k1 := h1
  have lt1 : ∀ x ∈ p1, x.block < W.heap.size := by obtain ⟨m, hm⟩ := k1; exact DataW.trod_lt m _ _ _ hm
  obtain ⟨a1, c1, n1, rfl, lc1, mc1, w1, q1⟩ := acts_of (hval 1 25 v1 rfl rfl) h1
  have k2 := h2
  have lt2 : ∀ x ∈ p2, x.block < W.heap.size := by obtain ⟨m, hm⟩ := k2; exact DataW.trod_lt m _ _ _ hm
  obtain ⟨a2, rfl, _, _, w2⟩ := open_int Try.underlying3 (hval 2 3 v2 rfl rfl) h2
  clear hA0 hval0
  refine (walk a0 c0 n0 a1 c1 n1 a2 W w0 lc0 mc0 w1 q1 lc1 mc1 w2).mono fun e W' ⟨he, bel⟩ => ?_
  subst he
  exact ⟨_, rfl, _, _, _, [], _, [], hW', trodAll_mk1 (shut_bool Try.underlying4 _), (trodAll_cons_mk (Below.trod laidOut (by kernel_rfl) (of_decide_eq_true (by kernel_rfl)) k0 bel lt0) (trodAll_cons_mk (Below.trod laidOut (by kernel_rfl) (of_decide_eq_true (by kernel_rfl)) k1 bel lt1) (trodAll_cons_mk (Below.trod laidOut (by kernel_rfl) (of_decide_eq_true (by kernel_rfl)) k2 bel lt2) trodAll_mk0))), rfl, bel.frame _, fun h => by cases h⟩

/-- THE STATEMENT. -/
theorem holds : Rows.PoolPlaysSaid :=
  OpenClaim.holds_of_wide 3 Try.f3 rfl rfl rfl rfl rfl rfl rfl ⟨rfl, rfl, rfl, rfl, rfl⟩ rfl rfl rfl rfl rfl (by kernel_rfl) Try.func3 (by kernel_rfl)
    (of_decide_eq_true (by kernel_rfl)) (by unfold Func.isWrapper; first | (rw [if_pos (by decide +kernel)]; kernel_rfl) | (rw [if_neg (by decide +kernel)]; exact ⟨rfl, rfl⟩))
    (fun os started H enc _ => lifted os started H enc)
end Go.Proofs.Ytgdbjepddcmfoaa.poolPlays
