/- The document's timer: Due. -/
import Derived.Test.YtdoaihmeldkahaaTimerRef
set_option linter.unusedVariables false
namespace Go.Proofs.Ytdoaihmeldkahaa
open Go.RowKit

theorem RAt.tail {w : World} {p c b off : Nat} {x : En} {l : List En} (h : RAt w p (some ⟨b, off, none⟩) c (x :: l)) :
    RAt (w.setCell ⟨p, 0, none⟩ (.slice (if c = 1 then some ⟨b, off, none⟩ else some ⟨b, off + 2, none⟩) l.length (c - 1))) p (if c = 1 then some ⟨b, off, none⟩ else some ⟨b, off + 2, none⟩) (c - 1) l ∧
      ∀ j, rB p (if c = 1 then some ⟨b, off, none⟩ else some ⟨b, off + 2, none⟩) l j → rB p (some ⟨b, off, none⟩) (x :: l) j := by
  have hr := h.room
  rw [List.length_cons] at hr
  have hne := h.ne b off rfl (by simp)
  refine ⟨⟨?_, ?_, by omega, ?_, ?_, by have := h.few; rw [List.length_cons] at this; omega⟩, ?_⟩
  · have := blk_put (i := 0) (.slice (if c = 1 then some ⟨b, off, none⟩ else some ⟨b, off + 2, none⟩) l.length (c - 1)) h.obj
    simpa using this
  · rcases h.row with e | ⟨b', off', e, hb, hc⟩
    · cases e
    · injection e with e
      injection e with e1 e2
      subst e1; subst e2
      by_cases hl : l = []
      · exact .inl hl
      · have h1 : c ≠ 1 := by have : 0 < l.length := List.length_pos_iff.2 hl; omega
        rw [if_neg h1]
        refine .inr ⟨b, off + 2, rfl, by simpa using hb, fun i y hy r v hv => ?_⟩
        have := hc (i + 1) y (by simpa using hy) r v hv
        rw [show off + 2 + i * 2 + r = off + (i + 1) * 2 + r by omega]
        exact (World.cell?_of_block (a := ⟨b, off + (i + 1) * 2 + r, none⟩) (Below.heap_setCell w ⟨p, 0, none⟩ _ b hne)).trans this
  · right
    by_cases h1 : c = 1
    · exact ⟨b, off, by rw [if_pos h1]⟩
    · exact ⟨b, off + 2, by rw [if_neg h1]⟩
  · intro b' off' e _
    by_cases h1 : c = 1
    · rw [if_pos h1] at e; injection e with e; injection e with e; omega
    · rw [if_neg h1] at e; injection e with e; injection e with e; omega
  · rintro j (rfl | ⟨e, o2, e2⟩)
    · exact .inl rfl
    · refine .inr ⟨by simp, off, ?_⟩
      by_cases h1 : c = 1
      · rw [if_pos h1] at e2; injection e2 with e2; injection e2 with e2 _; rw [e2]
      · rw [if_neg h1] at e2; injection e2 with e2; injection e2 with e2 _; rw [e2]
def DueRQ (w : World) (p : Nat) (G : Nat → Prop) (L : List En) (now : Int) (e : Ending) (w' : World) : Prop :=
  ∃ v G', e = .returned v ∧ w'.ownsRow w.heap.size 3 1 v (TM.dueL now L).length ((TM.dueL now L).flatMap intC) ∧ RObj w' p G' (TM.restL now L) ∧ Foot (· = p) w w' ∧ ∀ j, G' j → G j
theorem due_endR {w wr : World} {p k c : Nat} {A : Option Addr} {G : Nat → Prop} {L : List En} {now : Int} {v : Value} (hk : k ≤ L.length)
    (hown : wr.ownsRow w.heap.size 3 1 v k (((L.take k).map (·.i)).flatMap intC)) (hO : RAt wr p A c (L.drop k)) (hft : Foot (· = p) w wr) (hyg : ∀ j, rB p A (L.drop k) j → G j) (hall : ∀ y ∈ L.take k, decide (y.k ≤ now) = true)
    (hno : ∀ y, L[k]? = some y → decide (y.k ≤ now) = false) : DueRQ w p G L now (.returned v) wr := by
  obtain ⟨e1, e2⟩ := TM.while_at hk hall hno
  have e3 : TM.dueL now L = (L.take k).map (·.i) := by unfold TM.dueL; rw [e1]
  have e4 : TM.restL now L = L.drop k := e2
  refine ⟨v, _, rfl, ?_, ⟨A, c, by rw [e4]; exact hO, rfl⟩, hft, by rw [e4]; exact hyg⟩
  rw [e3, List.length_map, List.length_take, Nat.min_eq_left hk]
  exact hown
set_option maxRecDepth 100000 in
set_option maxHeartbeats 4000000 in
theorem due_r (p : Nat) (G : Nat → Prop) (L : List En) (now : Int) (w : World) (h : RObj w p G L) :
    Calls Try.prog 15 #[.pointer (some ⟨p, 0, none⟩), .int .i64 now] w fun e w' => DueRQ w p G L now e w' := by
  obtain ⟨i0, hi, hz0, hz1, hz2⟩ := info_parts info_intT
  obtain ⟨A, c, h, rfl⟩ := h
  have hpl := h.head.2.2
  have hfew := h.few
  obtain ⟨n, hn⟩ : ∃ n, n = L.length := ⟨_, rfl⟩
  rw [← hn] at hfew
  have H0 := Lib.hid (And.intro hn h)
  have HS : Hid (∃ A' c', w.ownsRow w.heap.size 3 1 (.slice none 0 0) 0 (((L.take 0).map (·.i)).flatMap intC) ∧ RAt w p A' c' (L.drop 0) ∧ Foot (· = p) w w ∧ (∀ j, rB p A' (L.drop 0) j → rB p A L j) ∧ ∀ y ∈ L.take 0, decide (y.k ≤ now) = true) :=
    Lib.hid ⟨A, c, World.ownsRow_nil _ _ _ _, h, Foot.refl _ _, fun j hj => hj, fun y hy => by simp at hy⟩
  clear h hn
  go_enter Try.func15, Try.ntmps15
  go_wp2
  go_loopw [5] (fun v wr => ∃ k : Nat, sLen v = k ∧ k ≤ n ∧ w.heap.size ≤ wr.heap.size ∧ Hid (∃ A' c', wr.ownsRow w.heap.size 3 1 v k (((L.take k).map (·.i)).flatMap intC) ∧ RAt wr p A' c' (L.drop k) ∧ Foot (· = p) w wr ∧ (∀ j, rB p A' (L.drop k) j → rB p A L j) ∧ ∀ y ∈ L.take k, decide (y.k ≤ now) = true)) (fun v _ => n - sLen v)
  case atStart => exact ⟨0, rfl, by omega, Nat.le_refl _, HS⟩
  case round =>
    clear HS
    obtain ⟨k, hsl, hk, hsz, hin⟩ := hrel
    obtain ⟨A1, c1, hown, hO, hft, hyg, hall⟩ := hin.out
    obtain ⟨c0, f0, hpw⟩ := hO.head
    by_cases hkn : k < n
    · obtain ⟨x, hx⟩ := get_lt (l := L) (k := k) (by rw [← H0.out.1]; exact hkn)
      have hdr : L.drop k = x :: L.drop (k + 1) := by
        rw [List.drop_eq_getElem_cons (by rw [← H0.out.1]; exact hkn)]
        rw [List.getElem?_eq_getElem (by rw [← H0.out.1]; exact hkn)] at hx
        injection hx with hx; rw [hx]
      have hO' := hO
      rw [hdr] at hO' c0
      obtain ⟨b, off, rfl, hb, hbp, z0, z1⟩ := hO'.at_ (k := 0) (x := x) rfl
      simp only [Nat.zero_mul, Nat.add_zero] at z0 z1
      obtain ⟨m, hm⟩ : ∃ m, m = (L.drop (k + 1)).length := ⟨_, rfl⟩
      have hroom := hO'.room
      rw [List.length_cons, ← hm] at c0 hroom
      have hmn : m + k + 1 = n := by rw [hm, List.length_drop, ← H0.out.1]; omega
      have t1 : decide ((0 : Int) < ((m + 1 : Nat) : Int)) = true := decide_eq_true (by omega)
      have HX := Lib.hid (And.intro hx (And.intro hdr hm))
      have HH := Lib.hid (And.intro hown (And.intro hO (And.intro hft (And.intro hyg hall))))
      have HT := Lib.hid hO'.tail
      clear hown hft hyg hall hin hx hdr hO hO' hm
      by_cases hnow : x.k ≤ now
      · have t0 : decide (x.k ≤ now) = true := decide_eq_true hnow
        have hown := HH.out.1
        have hvb : ∀ j, u5.ownBlock = some j → w.heap.size ≤ j := fun j hj => (hown.lt j hj).1
        have hnp : u5.ownBlock ≠ some p := fun e => by have := hvb p e; omega
        have ca := (((Below.refl wr.heap.size wr).alloc (Nat.le_refl _) (.cells #[.int .i64 x.i] 3)).cell (p := ⟨p, 0, none⟩) hpw).trans c0
        have fa := (((Below.refl wr.heap.size wr).alloc (Nat.le_refl _) (.cells #[.int .i64 x.i] 3)).frozen (p := ⟨p, 0, none⟩) hpw).trans f0
        have Ca := Lib.hid (And.intro ca fa)
        clear ca fa
        go_wp2_with (at_builtin; refine wpList_append_lies _ rfl _ _ 38 rfl w.heap.size 3 i0 (.int .i64 0) 1 8 Try.underlying38 hi hz0 hz1 hz2 rfl (by decide) u5 k _ rfl (hown.alloc _) ⟨_, 0, none⟩ 1 1 [.int .i64 x.i] rfl rfl (cell_one_new _ _ _) (by simp [Value.oneCell']) (by omega) (by unfold maxLen; omega) (by omega) (by simp; omega) _ rfl ?_; intro g3 c3 w3 hown3 hgrow3 hat3 hlt3; have k0 := (hgrow3.cell_far ⟨p, 0, none⟩ (by simp; omega) (Ne.symm hnp)).trans Ca.out.1; have k1 := (hgrow3.frozen_far ⟨p, 0, none⟩ (by simp; omega) (Ne.symm hnp)).trans Ca.out.2)
        obtain ⟨_, hO, hft, hyg, hall⟩ := HH.out
        have hGl : ∀ j, rB p A L j → j < w.heap.size := (show RObj w p (rB p A L) L from ⟨A, c, H0.out.2, rfl⟩).lt.2.2
        have hF3 : Foot (vB u5) wr w3 := ((Foot.refl (vB u5) wr).alloc _).grown hgrow3 fun j hj => .inl hj
        have hO3 := hO.off (w' := w3) hF3.size fun i hi hr => hF3.block i hi fun hv => by have := hGl i (hyg i hr); have := hvb i hv; omega
        rw [HX.out.2.1] at hO3 hyg
        obtain ⟨hO4, hs4⟩ := hO3.tail
        rw [← HX.out.2.2] at hO4
        have hg3 := (hown3.lt g3 rfl).1
        have ek : (((L.take (k + 1)).map (·.i)).flatMap intC) = ((L.take k).map (·.i)).flatMap intC ++ [.int .i64 x.i] := by
          rw [take_next HX.out.1, List.map_append, List.flatMap_append]; simp [intC]
        rw [← ek] at hown3
        have hs3 := hF3.size
        refine ⟨⟨k + 1, rfl, by omega, by simp; omega, Lib.hid ⟨_, _, own_stays hown3 fun i hi => ?_, hO4, ?_, fun j hj => hyg j (hs4 j hj), fun y hy => ?_⟩⟩, ?_⟩
        · have : i = g3 := by simpa [Value.ownBlock] using hi.symm
          subst this
          exact Below.heap_setCell w3 ⟨p, 0, none⟩ _ _ (show i ≠ p by omega)
        · exact ((hft.trans hF3 fun j hj => .inr (hvb j hj))).setCell (p := ⟨p, 0, none⟩) (.inl rfl) _
        · rw [take_next HX.out.1] at hy
          rcases List.mem_append.1 hy with hy | hy
          · exact hall y hy
          · simp at hy; subst hy; exact decide_eq_true hnow
        · rw [hsl]; simp [sLen]; omega
      · have t0 : decide (x.k ≤ now) = false := decide_eq_false hnow
        go_wp2
        go_ret
        obtain ⟨hown, hO, hft, hyg, hall⟩ := HH.out
        refine due_endR (by rw [← H0.out.1]; exact hk) hown hO hft hyg hall (fun y hy => ?_)
        rw [HX.out.1] at hy; injection hy with hy; subst hy
        exact t0
    · obtain rfl : k = n := by omega
      have hdr : (L.drop k).length = 0 := by rw [List.length_drop, ← H0.out.1]; omega
      rw [hdr] at c0
      have HH := Lib.hid (And.intro hown (And.intro hO (And.intro hft (And.intro hyg hall))))
      clear hown hO hft hyg hall hin hdr
      go_wp2
      go_ret
      obtain ⟨hown, hO, hft, hyg, hall⟩ := HH.out
      refine due_endR (by rw [← H0.out.1]; exact hk) hown hO hft hyg hall (fun y hy => ?_)
      rw [List.getElem?_eq_none (by rw [← H0.out.1]; exact Nat.le_refl _)] at hy; cases hy
end Go.Proofs.Ytdoaihmeldkahaa
