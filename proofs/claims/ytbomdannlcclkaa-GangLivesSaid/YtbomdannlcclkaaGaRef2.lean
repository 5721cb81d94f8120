/- Gangs: the document's book: Get, In. -/
import Derived.Test.YtbomdannlcclkaaGaRef
import Derived.Test.YtbomdannlcclkaaGaAdd
set_option linter.unusedVariables false
namespace Go.Proofs.Ytbomdannlcclkaa
open Go.RowKit
set_option maxRecDepth 100000 in
set_option maxHeartbeats 4000000 in
theorem rget_any (T : TypeId) (p : Nat) (F : Nat → Prop) (L : List Rc) (id : Int) (w : World) (h : GaObj T w p F L) :
    Calls Try.prog 21 #[.pointer (some ⟨p, 0, none⟩), .int .i64 id] w fun e w' => e = .returned (.tuple #[rcV (GL.getR L id), .int .i64 (GL.getE L id)]) ∧ Below w.heap.size w w' := by
  obtain ⟨V, hV, _⟩ := h
  have hz := rc_new w GL.zr
  have hB1 : Below w.heap.size w (w.alloc (rcO GL.zr)) := (Below.refl _ w).alloc (Nat.le_refl _) _
  have h1 := hV.keep hB1
  have HF := Lib.hid (rfind_any T p V L id _ h1)
  have HB1 := Lib.hid hB1
  have HZ2 := Lib.hid hz
  have H1 := Lib.hid h1
  clear hV hz hB1 h1
  simp only [rcO, rcA, GL.zr] at HF HB1 HZ2 H1
  go_enter Try.func21, Try.ntmps21
  go_wp2_with fail
  refine HF.out.mono ?_
  rintro e w2 ⟨hfo, rfl⟩
  clear HF
  rcases hfo with ⟨hno, rfl⟩ | ⟨x, hx, hxi, hh, rfl⟩
  · have HN := Lib.hid (GL.get_no hno)
    clear hno
    go_wp2_with (refine wpList_store_rc rfl _ _ rfl w.heap.size GL.zr rfl rfl GL.zr HZ2.out ?_)
    refine bodyPost_ret (results_rcn Try.results21 _ _ w.heap.size GL.zr (.int .i64 3) rfl (setRow_rc (old := GL.zr) HZ2.out) rfl) rfl ?_
    refine ⟨?_, below_row HB1.out (Nat.le_refl _) _⟩
    rw [HN.out.1, HN.out.2]
  · have HN := Lib.hid (GL.get_yes hx hh)
    obtain ⟨A, g, c, hVs, hc1, hc2, hR, hA, hEl, hA2⟩ := own_slc H1.out.own
    have hne : L ≠ [] := fun e => by rw [e] at hx; simp at hx
    obtain ⟨e1, hg⟩ := hA2 hne
    subst e1
    have c0 := H1.out.head
    rw [hVs] at c0
    have HR := Lib.hid (H1.out.rec_ hg hx)
    have hlen := H1.out.len
    have hkl := (List.getElem?_eq_some_iff.1 hx).1
    obtain ⟨k0, hk0⟩ : ∃ k0, k0 = GL.pos L id := ⟨_, rfl⟩
    rw [← hk0] at HR hkl ⊢
    obtain ⟨n0, hn0⟩ : ∃ n0, n0 = L.length := ⟨_, rfl⟩
    rw [← hn0] at c0 hkl hlen hc1
    have t0 : decide ((k0 : Int) < 0) = false := by simp
    clear hx hxi hh hk0 hR hA hEl hA2 hne hVs hn0
    go_wp2_with (first
      | (refine wpList_load_rc rfl _ rfl g (k0 * 16) x rfl HR.out ?_)
      | (refine wpList_store_rc rfl _ _ rfl w.heap.size x rfl rfl GL.zr HZ2.out ?_))
    refine bodyPost_ret (results_rcn Try.results21 _ _ w.heap.size x (.int .i64 0) rfl (setRow_rc (old := GL.zr) HZ2.out) rfl) rfl ?_
    refine ⟨?_, below_row HB1.out (Nat.le_refl _) _⟩
    rw [HN.out.1, HN.out.2]
theorem inL_take {L : List Rc} {s : Int} {k : Nat} {x : Rc} (h : L[k]? = some x) : GL.inL (L.take (k + 1)) s = if x.st = s then GL.inL (L.take k) s ++ [x] else GL.inL (L.take k) s := by
  unfold GL.inL
  rw [List.take_add_one, h, List.filter_append]
  by_cases e : x.st = s <;> simp [e]
set_option maxRecDepth 100000 in
set_option maxHeartbeats 4000000 in
theorem rin_any (T : TypeId) (p : Nat) (F : Nat → Prop) (L : List Rc) (s : Int) (w : World) (h : GaObj T w p F L) :
    Calls Try.prog 19 #[.pointer (some ⟨p, 0, none⟩), .int .i64 s] w fun e w' => ∃ A c, e = .returned (.slice A (GL.inL L s).length c) ∧ w'.ownsRow w.heap.size 42 16 (.slice A (GL.inL L s).length c) (GL.inL L s).length ((GL.inL L s).flatMap rcC) ∧ Below w.heap.size w w' := by
  obtain ⟨V, hV, _⟩ := h
  obtain ⟨i0, hi, hz0, hz1, hz2⟩ := info_parts info_rc
  obtain ⟨A, g, c, hVs, hc1, hc2, hR, hA, hEl, hA2⟩ := own_slc hV.own
  have c0 := hV.head
  rw [hVs] at c0
  have hfew := hV.len
  obtain ⟨n, hn⟩ : ∃ n, n = L.length := ⟨_, rfl⟩
  rw [← hn] at c0 hfew
  have H := Lib.hid (And.intro hn hR)
  have HC := Lib.hid (And.intro c0 (hV.lt p (.inl rfl)))
  have HB0 := Lib.hid (Below.refl w.heap.size w)
  have HO0 : Hid (w.ownsRow w.heap.size 42 16 (.slice none 0 0) (GL.inL (L.take 0) s).length ((GL.inL (L.take 0) s).flatMap rcC)) := Lib.hid (World.ownsRow_nil w _ _ _)
  clear hV hn hVs hR hA hEl hA2 hc1 c0
  go_enter Try.func19, Try.ntmps19
  go_wp2
  go_loopw [5, 6] (fun v j wr => ∃ k : Nat, j = .int .i64 k ∧ k ≤ n ∧ Hid (Below w.heap.size w wr) ∧ Hid (wr.ownsRow w.heap.size 42 16 v (GL.inL (L.take k) s).length ((GL.inL (L.take k) s).flatMap rcC))) (fun _ j _ => match j with | .int _ i => n - i.toNat | _ => 0)
  case atStart => exact ⟨0, rfl, by omega, HB0, HO0⟩
  case round =>
    clear HB0 HO0
    obtain ⟨k, rfl, hk, hB, hO⟩ := hrel
    have c0 := (hB.out.cell (p := ⟨p, 0, none⟩) HC.out.2).trans HC.out.1
    by_cases hlt : k < n
    · obtain ⟨x, hx⟩ : ∃ x, L[k]? = some x := ⟨_, List.getElem?_eq_getElem (by rw [← H.out.1]; exact hlt)⟩
      obtain ⟨hA, hgl, hr⟩ := H.out.2 k x hx
      have hr1 := hr.keep hgl hB.out
      have z0 : wr.cell? ⟨g, k * 16 + 8, none⟩ = some (.int .i64 x.st) := hr1 8 _ rfl
      have HR := Lib.hid hr1
      subst hA
      have t1 : decide (k < n) = true := decide_eq_true hlt
      have Hx := Lib.hid hx
      obtain ⟨ln, hln⟩ : ∃ ln, ln = (GL.inL (L.take k) s).length := ⟨_, rfl⟩
      have hln2 : ln ≤ 4096 := by
        rw [hln]
        exact Nat.le_trans (GL.inL_len _ _) (by rw [List.length_take]; omega)
      have Hln := Lib.hid hln
      rw [← hln] at hO
      clear hx hr hr1 hln
      by_cases e : x.st = s
      · have t2 : (x.st == s) = true := by simpa using e
        have He := Lib.hid e
        have hBs := hB.out.size
        have hOw := hO.out
        clear e
        go_wp2_with (first
          | (refine wpList_load_rc rfl _ rfl g (k * 16) x rfl HR.out ?_; simp only [rcA])
          | (refine wpList_append_els (C := rcC) (k := 16) _ rfl _ _ 34 rfl w.heap.size 42 i0 (rcV GL.zr) 128 Try.underlying34 hi hz0 hz1 hz2 rfl (by decide) _ ln _ rfl (hOw.alloc (rcO x)) _ (some ⟨wr.heap.size, 0, none⟩) 1 1 [x] rfl (els_blk rcC_len (rc_new wr x) (fun j v hj => by simpa [rcC, rcA] using hj)) rfl rcC_len rcC_one (by unfold maxLen; omega) (by omega) (by simp; omega) ?_; intro A5 c5 w5 own5 g5 k5; have H5 := Lib.hid (And.intro own5 g5); clear own5 g5 k5 hOw))
        have hob : ∀ j, (Value.ownBlock u5) = some j → w.heap.size ≤ j := fun j hj => (hO.out.lt j hj).1
        have hB5 := Lib.hid ((hB.out.alloc hBs (rcO x)).grown H5.out.2 (by simp; omega) (fun j hj => hob j hj))
        have hE : GL.inL (L.take (k + 1)) s = GL.inL (L.take k) s ++ [x] := by rw [inL_take Hx.out, if_pos He.out]
        have hO5 : Hid (w5.ownsRow w.heap.size 42 16 (.slice A5 (ln + 1) c5) (GL.inL (L.take (k + 1)) s).length ((GL.inL (L.take (k + 1)) s).flatMap rcC)) := Lib.hid (by
          rw [hE, List.length_append, List.length_singleton, ← Hln.out, List.flatMap_append]
          exact H5.out.1)
        clear hE hob
        go_wp2
        go_roundw
        case rel => exact ⟨k + 1, by go_num, by omega, hB5, hO5⟩
        case measure => simp; omega
      · have t2 : (x.st == s) = false := by simpa using e
        have hE : GL.inL (L.take (k + 1)) s = GL.inL (L.take k) s := by rw [inL_take Hx.out, if_neg e]
        rw [Hln.out] at hO
        rw [← hE] at hO
        clear hE e
        go_wp2
        go_roundw
        case rel => exact ⟨k + 1, by go_num, by omega, hB, hO⟩
        case measure => simp; omega
    · have t1 : decide (k < n) = false := decide_eq_false hlt
      have hkn : k = n := by omega
      have HO : Hid (wr.ownsRow w.heap.size 42 16 u5 (GL.inL L s).length ((GL.inL L s).flatMap rcC)) := Lib.hid (by
        have := hO.out
        rw [hkn, H.out.1, List.take_length] at this
        exact this)
      clear hlt hkn hO
      go_wp2
      go_ret
      obtain ⟨A', c', e1⟩ := own_formE HO.out
      refine ⟨A', c', by rw [← e1]; simp, by rw [← e1]; exact HO.out, hB.out⟩

end Go.Proofs.Ytbomdannlcclkaa
