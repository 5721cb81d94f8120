/- A timer's Due. -/
import Derived.Test.YtdoaihmeldkahaaTimerSet
set_option linter.unusedVariables false
namespace Go.Proofs.Ytdoaihmeldkahaa
open Go.RowKit

def sLen : Value → Nat
  | .slice _ n _ => n
  | _ => 0
def intC (x : Int) : List Value := [.int .i64 x]
theorem intC_len (x : Int) : (intC x).length = 1 := rfl
theorem intC_one (x : Int) : ∀ v ∈ intC x, v.oneCell' = true := by simp [intC, Value.oneCell']
namespace TM
theorem while_at {p : En → Bool} : ∀ {l : List En} {k : Nat}, k ≤ l.length → (∀ y ∈ l.take k, p y = true) → (∀ y, l[k]? = some y → p y = false) → l.takeWhile p = l.take k ∧ l.dropWhile p = l.drop k
  | [], k, _, _, _ => by simp
  | x :: l, 0, _, _, h => by
    have := h x (by simp)
    simp [this]
  | x :: l, k + 1, hk, ha, h => by
    have h1 := ha x (by simp)
    have ih := while_at (l := l) (k := k) (by simpa using hk) (fun y hy => ha y (by rw [List.take_succ_cons]; exact List.mem_cons_of_mem _ hy)) (fun y hy => h y (by simpa using hy))
    simp [h1, ih.1, ih.2]
theorem drop_head {x : En} {l : List En} : tDrop (x :: l) x.i = (0, l) := by
  unfold tDrop
  rw [find_head, rem_head]
  simp
end TM
theorem info_intT : (Try.prog.info? 3).map (fun i => (i.zero, i.size, i.bytes)) = some (some (.int .i64 0), 1, 8) := by kernel_rfl
/-- What Due leaves: a slice of its own, the timer's rest, apart from it. -/
def DueQ (w : World) (p : Nat) (F : Nat → Prop) (L : List En) (now : Int) (e : Ending) (w' : World) : Prop :=
  ∃ v F', e = .returned v ∧ w'.ownsRow w.heap.size 3 1 v (TM.dueL now L).length ((TM.dueL now L).flatMap intC) ∧ TObj w' p F' (TM.restL now L) ∧ Foot F w w' ∧ (∀ j, F' j → F j ∨ w.heap.size ≤ j) ∧ ∀ j, v.ownBlock = some j → ¬ F' j
theorem due_end {w wr W : World} {p k : Nat} {F F1 : Nat → Prop} {L : List En} {now : Int} {v : Value} (hk : k ≤ L.length)
    (hown : wr.ownsRow w.heap.size 3 1 v k (((L.take k).map (·.i)).flatMap intC)) (hO : TObj wr p F1 (L.drop k)) (hft : Foot F w wr) (hyg : ∀ j, F1 j → F j ∨ w.heap.size ≤ j) (hap : ∀ j, v.ownBlock = some j → ¬ F1 j) (hall : ∀ y ∈ L.take k, decide (y.k ≤ now) = true)
    (hno : ∀ y, L[k]? = some y → decide (y.k ≤ now) = false) (hb : Below wr.heap.size wr W) : DueQ w p F L now (.returned v) W := by
  obtain ⟨e1, e2⟩ := TM.while_at hk hall hno
  have e3 : TM.dueL now L = (L.take k).map (·.i) := by unfold TM.dueL; rw [e1]
  have e4 : TM.restL now L = L.drop k := e2
  refine ⟨v, F1, rfl, ?_, by rw [e4]; exact hO.keep hb, hft.trans (Foot.of_below (F := fun _ => False) hb) (fun i hi => hi.elim), hyg, hap⟩
  rw [e3, List.length_map, List.length_take, Nat.min_eq_left hk]
  exact own_keep hown hb
set_option maxRecDepth 100000 in
set_option maxHeartbeats 4000000 in
theorem due_t (p : Nat) (F : Nat → Prop) (L : List En) (now : Int) (w : World) (h : TObj w p F L) :
    Calls Try.prog 14 #[.pointer (some ⟨p, 0, none⟩), .int .i64 now] w fun e w' => DueQ w p F L now e w' := by
  obtain ⟨i0, hi, hz0, hz1, hz2⟩ := info_parts info_intT
  have hTS := h.ok
  have hlen := hTS.len
  obtain ⟨n, hn⟩ : ∃ n, n = L.length := ⟨_, rfl⟩
  rw [← hn] at hlen
  have H0 := Lib.hid (And.intro hn hTS)
  have HA := Lib.hid (show Below w.heap.size w w ∧ True from ⟨Below.refl _ _, trivial⟩)
  have HS : Hid (∃ F', w.ownsRow w.heap.size 3 1 (.slice none 0 0) 0 (((L.take 0).map (·.i)).flatMap intC) ∧ TObj w p F' (L.drop 0) ∧ Foot F w w ∧ (∀ j, F' j → F j ∨ w.heap.size ≤ j) ∧ (∀ j, (Value.slice none 0 0).ownBlock = some j → ¬ F' j) ∧ ∀ y ∈ L.take 0, decide (y.k ≤ now) = true) :=
    Lib.hid ⟨F, World.ownsRow_nil _ _ _ _, h, Foot.refl _ _, fun j hj => .inl hj, (fun j hj => by cases hj), fun y hy => by simp at hy⟩
  clear h hn hTS
  go_enter Try.func14, Try.ntmps14
  go_wp2
  go_loopw [5, 6, 7] (fun v _ _ wr => ∃ k : Nat, sLen v = k ∧ k ≤ n ∧ w.heap.size ≤ wr.heap.size ∧ Hid (∃ F', wr.ownsRow w.heap.size 3 1 v k (((L.take k).map (·.i)).flatMap intC) ∧ TObj wr p F' (L.drop k) ∧ Foot F w wr ∧ (∀ j, F' j → F j ∨ w.heap.size ≤ j) ∧ (∀ j, v.ownBlock = some j → ¬ F' j) ∧ ∀ y ∈ L.take k, decide (y.k ≤ now) = true)) (fun v _ _ _ => n - sLen v)
  case atStart => exact ⟨0, rfl, by omega, Nat.le_refl _, HS⟩
  case round =>
    clear HS HA
    obtain ⟨k, hsl, hk, hsz, hin⟩ := hrel
    obtain ⟨F1, hown, hO, hft, hyg, hap, hall⟩ := hin.out
    have hFi := Lib.hid (first_t p F1 (L.drop k) wr hO)
    have hpl := hO.lt.1
    by_cases hkn : k < n
    · obtain ⟨x, hx⟩ := get_lt (l := L) (k := k) (by rw [← H0.out.1]; exact hkn)
      have hdr : L.drop k = x :: L.drop (k + 1) := by
        rw [List.drop_eq_getElem_cons (by rw [← H0.out.1]; exact hkn)]
        rw [List.getElem?_eq_getElem (by rw [← H0.out.1]; exact hkn)] at hx
        injection hx with hx; rw [hx]
      have HX := Lib.hid (And.intro hx hdr)
      rw [hdr] at hFi
      simp only [List.headD_cons, List.isEmpty_cons, Bool.not_false] at hFi
      have hxw := (H0.out.2.ok x (List.mem_of_getElem? hx)).2.2
      have HDr := Lib.hid (fun W hW => drop_t p F1 (L.drop k) x.i W hW hxw)
      rw [hdr, TM.drop_head] at HDr
      have HH := Lib.hid (And.intro hown (And.intro hO (And.intro hft (And.intro hyg (And.intro hap hall)))))
      clear hown hft hyg hap hall hin hx hdr hxw
      obtain ⟨xk, xi⟩ := x
      simp only [enV] at hFi HDr
      by_cases hnow : now < xk
      · have t0 : decide (now < xk) = true := decide_eq_true hnow
        clear hO
        go_wp2_with (go_at_call 23; refine hFi.out.mono ?_; rintro e w1 ⟨rfl, hb1⟩)
        go_ret
        obtain ⟨hown, hO, hft, hyg, hap, hall⟩ := HH.out
        refine due_end (by rw [← H0.out.1]; exact hk) hown hO hft hyg hap hall (fun y hy => ?_) (hb1.alloc hb1.size _)
        rw [HX.out.1] at hy; injection hy with hy; subst hy
        exact decide_eq_false (by show ¬ xk ≤ now; omega)
      · have t0 : decide (now < xk) = false := decide_eq_false hnow
        go_wp2_with fail
        refine hFi.out.mono ?_
        rintro e w1 ⟨rfl, hb1⟩
        go_wp2_with fail
        have HB := Lib.hid (hb1.alloc hb1.size (.cells #[.int .i64 xi, .int .i64 xk] 62))
        have bN := heap_alloc_new w1 (.cells #[.int .i64 xi, .int .i64 xk] 62)
        have hs1 := hb1.size
        refine (HDr.out _ (by rw [← HX.out.2]; exact hO.keep HB.out)).mono ?_
        rintro e w2 ⟨rfl, hO2, hF2⟩
        obtain ⟨hown, hO, hft, hyg, hap, hall⟩ := HH.out
        have hnF : ¬ F1 w1.heap.size := fun hf => by have := hO.lt.2.2 _ hf; omega
        have b2 := (hF2.block w1.heap.size (by simp) hnF).trans bN
        have y0 : w2.cell? ⟨w1.heap.size, 0, none⟩ = some (.int .i64 xi) := cell_blk (i := 0) b2 rfl
        have hs2 := hF2.size
        simp only [World.size_alloc] at hs2
        have hown2 : w2.ownsRow w.heap.size 3 1 u5 k (((L.take k).map (·.i)).flatMap intC) :=
          own_stays (own_keep hown HB.out) fun i hi => hF2.block i (by have := (hown.lt i hi).2; simp; omega) (hap i hi)
        have hFw : Foot F w w2 := (hft.trans (Foot.of_below (F := fun _ => False) HB.out) (fun i hi => hi.elim)).trans hF2 (fun i hi => hyg i hi)
        have HG := Lib.hid (And.intro hO2 (And.intro hFw (And.intro hyg (And.intro hap hall))))
        have hlt2 := blk_lt b2
        clear hown hO hft hyg hap hall hO2 hF2 hFw b2 bN hnF
        go_wp2_with (at_builtin; refine wpList_append_lies _ rfl _ _ 38 rfl w.heap.size 3 i0 (.int .i64 0) 1 8 Try.underlying38 hi hz0 hz1 hz2 rfl (by decide) u5 k _ rfl (hown2.alloc _) ⟨_, 0, none⟩ 1 1 [.int .i64 xi] rfl rfl (cell_one_new _ _ _) (by simp [Value.oneCell']) (by omega) (by unfold maxLen; omega) (by omega) (by simp; omega) _ rfl ?_; intro g3 c3 w3 hown3 hgrow3 hat3 hlt3)
        obtain ⟨hO2, hFw, hyg, hap, hall⟩ := HG.out
        have hs3 := hgrow3.size
        simp only [World.size_alloc] at hs3
        have hlv : ∀ j, u5.ownBlock = some j → w.heap.size ≤ j := fun j hj => (hown2.lt j hj).1
        have hFa := ((Foot.refl (vB u5) w2).alloc (.cells #[.int .i64 xi] 3)).grown hgrow3 (fun j hj => .inl hj)
        have hO3 : TObj w3 p F1 (L.drop (k + 1)) := hO2.foot hFa fun j hj hv => hap j hv hj
        have hF3 : Foot F w w3 := hFw.trans hFa fun j hj => .inr (hlv j hj)
        refine ⟨⟨k + 1, rfl, by omega, by omega, Lib.hid ⟨F1, ?_, hO3, hF3, hyg, fun j hj hf => ?_, fun y hy => ?_⟩⟩, ?_⟩
        · have e : (((L.take (k + 1)).map (·.i)).flatMap intC) = ((L.take k).map (·.i)).flatMap intC ++ [.int .i64 xi] := by
            rw [take_next HX.out.1, List.map_append, List.flatMap_append]; simp [intC]
          rw [e]; exact hown3
        · have : j = g3 := by simpa [Value.ownBlock] using hj.symm
          subst this
          rcases hat3 with e | e
          · exact hap _ e hf
          · have := hO2.lt.2.2 _ hf; simp only [World.size_alloc] at e; omega
        · rw [take_next HX.out.1] at hy
          rcases List.mem_append.1 hy with hy | hy
          · exact hall y hy
          · simp at hy; subst hy; exact decide_eq_true (by show xk ≤ now; omega)
        · rw [hsl]; simp [sLen]; omega
    · obtain rfl : k = n := by omega
      have hdr : L.drop k = [] := List.drop_eq_nil_of_le (by rw [← H0.out.1]; exact Nat.le_refl _)
      rw [hdr] at hFi
      simp only [List.headD_nil, List.isEmpty_nil, Bool.not_true] at hFi
      have HH := Lib.hid (And.intro hown (And.intro hO (And.intro hft (And.intro hyg (And.intro hap hall)))))
      clear hown hO hft hyg hap hall hin
      unfold enV TM.d0 at hFi
      go_wp2_with (go_at_call 23; refine hFi.out.mono ?_; rintro e w1 ⟨rfl, hb1⟩)
      go_ret
      obtain ⟨hown, hO, hft, hyg, hap, hall⟩ := HH.out
      refine due_end (by rw [← H0.out.1]; exact hk) hown hO hft hyg hap hall (fun y hy => ?_) (hb1.alloc hb1.size _)
      rw [List.getElem?_eq_none (by rw [← H0.out.1]; exact Nat.le_refl _)] at hy; cases hy
end Go.Proofs.Ytdoaihmeldkahaa
