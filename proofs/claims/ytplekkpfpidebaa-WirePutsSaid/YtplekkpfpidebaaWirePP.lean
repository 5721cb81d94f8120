/- PutConfig: a configuration's bytes. -/
import Derived.Test.YtplekkpfpidebaaHeldOn
import Derived.Test.YtplekkpfpidebaaHeldTo
import Derived.Test.YtplekkpfpidebaaWirePC
set_option linter.unusedVariables false
set_option linter.unusedSimpArgs false
set_option maxRecDepth 100000
namespace Go.Proofs.Ytplekkpfpidebaa
open Go.RowKit
/-- A domain, a queue as cells. -/
def dmC (x : Int × Int) : List Value := [.int .i64 x.1, .int .i64 x.2]
def quC (x : Int × Int × Int) : List Value := [.int .i64 x.1, .int .i64 x.2.1, .int .i64 x.2.2]
def DmOk (x : Int × Int) : Prop := I64 x.1 ∧ I64 x.2
def QuOk (x : Int × Int × Int) : Prop := I64 x.1 ∧ I64 x.2.1 ∧ I64 x.2.2
theorem clput_row (T base : Nat) (t : List UInt8) (v : Value) (w w1 : World) (hbl : Below w.heap.size w w1) (fs : List FldP) (vs : List Int) (cs : Array Value) (hcs : cs = (fs.flatMap fpC).toArray) (hR : w1.heap[w.heap.size]? = some (.cells cs 92 (0, 0)))
    (h : PutSt w T base t v) (ht : t.length ≤ 1000000) (g n : Nat) (hn : n = fs.length) (hg : g < w.heap.size) (hgT : ¬ TB T v g) (hfs : ∀ x ∈ fs, (x.2.2 = 1 ∨ x.2.2 = 2 ∨ x.2.2 = 3) ∧ x.1 = g) (hlen : fs.length ≤ 8) (hN : NumsAt w1 fs vs) :
    Calls Try.prog 27 #[.slice (some ⟨w.heap.size, 0, none⟩) n n, .pointer (some ⟨T, 0, none⟩)] w1 fun e W' => e = .returned (.bool (fitF fs vs)) ∧ Hid (fitF fs vs = true → PutTo w W' T base v (t ++ encF fs vs)) ∧ Foot (TB T v) w1 W' := by
  have hs := hbl.size
  refine (clput_any T base t v w1 (h.keep hbl) ht (some ⟨w.heap.size, 0, none⟩) n n fs vs hn (els_blk fpC_len hR (fun j u hj => by rw [hcs]; simpa using hj)) (fun b off e => by cases e; exact not_tb h (Nat.le_refl _)) (fun x hx => ⟨(hfs x hx).1, by rw [(hfs x hx).2]; omega, by rw [(hfs x hx).2]; exact hgT⟩) hlen hN).mono ?_
  rintro e W' ⟨he, hP, hF⟩
  refine ⟨he, Lib.hid fun hh => ?_, hF.out⟩
  obtain ⟨v', h1, h2⟩ := hP.out hh
  exact ⟨v', h1, fun i hi => (h2 i hi).imp id fun h => by omega⟩
/-- One after the other. -/
theorem PutTo.foot {W w1 w2 : World} {T : Nat} {v v1 : Value} (hv : ∀ i, v1.ownBlock = some i → v.ownBlock = some i ∨ W.heap.size ≤ i) (hF : Foot (TB T v) W w1) (h2 : Foot (TB T v1) w1 w2) : Foot (TB T v) W w2 :=
  hF.trans h2 fun i hi => by
    rcases hi with hi | hi
    · exact .inl (.inl hi)
    · exact (hv i hi).imp .inr id
theorem PutTo.step {W w1 w2 : World} {T base : Nat} {v v1 : Value} {t2 : List UInt8} (hv : ∀ i, v1.ownBlock = some i → v.ownBlock = some i ∨ W.heap.size ≤ i) (hF : W.heap.size ≤ w1.heap.size) (h2 : PutTo w1 w2 T base v1 t2) : PutTo W w2 T base v t2 := by
  obtain ⟨v', h3, h4⟩ := h2
  refine ⟨v', h3, fun i hi => ?_⟩
  rcases h4 i hi with h | h
  · exact hv i h
  · exact .inr (by omega)
theorem tb_not {T : Nat} {v v1 : Value} {W : World} (hv : ∀ i, v1.ownBlock = some i → v.ownBlock = some i ∨ W.heap.size ≤ i) {g : Nat} (hg : g < W.heap.size) (h : ¬ TB T v g) : ¬ TB T v1 g := by
  rintro (e | e)
  · exact h (.inl e)
  · rcases hv g e with h1 | h1
    · exact h (.inr h1)
    · omega
theorem fit_two (a b : Int) (x y z u c d : Nat) : fitF [(x, y, c), (z, u, d)] [a, b] = (WM.fit a c && WM.fit b d) := by simp [fitF]
theorem enc_two (a b : Int) (x y z u c d : Nat) : encF [(x, y, c), (z, u, d)] [a, b] = WM.enc a.toNat c ++ WM.enc b.toNat d := by simp [encF]
theorem domE_len (x : Int × Int) : (WM.domE x).length = 3 := by simp [WM.domE, WM.enc_len]
theorem doms_len (l : List (Int × Int)) : (l.flatMap WM.domE).length = 3 * l.length := by
  induction l with
  | nil => rfl
  | cons x l ih => rw [List.flatMap_cons, List.length_append, ih, domE_len, List.length_cons]; omega
theorem flat_next {α β : Type} {l : List α} {k : Nat} {x : α} (f : α → List β) (h : l[k]? = some x) : (l.take (k + 1)).flatMap f = (l.take k).flatMap f ++ f x := by rw [take_next h, List.flatMap_append]; simp
set_option maxHeartbeats 4000000 in
theorem domains_put (T base : Nat) (t : List UInt8) (v : Value) (W : World) (h : PutSt W T base t v) (g o nd dc : Nat) (dA : Option Addr) (ds : List (Int × Int)) (hnd : nd = ds.length) (hds : nd ≤ 10000) (ht : t.length + 40000 ≤ 1000000)
    (hg : W.cell? ⟨g, o, none⟩ = some (.slice dA nd dc)) (hgT : ¬ TB T v g) (hD : Els dmC 2 W W.heap.size dA ds) (hDT : ∀ b off, dA = some ⟨b, off, none⟩ → b < W.heap.size → ds ≠ [] → ¬ TB T v b) (hOk : ∀ x ∈ ds, DmOk x) :
    Calls Try.prog 33 #[.pointer (some ⟨g, o, none⟩), putCl T] W fun e W' => e = .returned (.bool (WM.nodOk ds)) ∧ Hid (WM.nodOk ds = true → PutTo W W' T base v (t ++ WM.nodE ds)) ∧ Hid (Foot (TB T v) W W') := by
  have HH := Lib.hid h
  have HGc := Lib.hid hg
  have hgl := lt_of_cell hg
  have HD := Lib.hid hD
  have HDT := Lib.hid hDT
  have HOk := Lib.hid hOk
  have Hnd := Lib.hid hnd
  have HC := Lib.hid (cntdom_any T base t v W h (by omega) g o nd dc dA (by unfold maxLen; omega) hg hgT)
  obtain ⟨R, hR⟩ : ∃ R, R = WM.nodOk ds := ⟨_, rfl⟩
  rw [← hR]
  have HRR := Lib.hid hR
  clear h hD hDT hOk hnd hR hg
  go_enter Try.func33, Try.ntmps33
  go_wp2_with fail
  refine HC.out.mono ?_
  rintro e w1 ⟨rfl, hP1, hF1⟩
  have hs1 := hF1.out.size
  cases hfit : WM.fit nd 1 with
  | false =>
    obtain rfl : R = false := by rw [HRR.out, WM.nodOk, ← Hnd.out, hfit]; rfl
    clear hfit HC hP1
    go_wp2_with fail
    go_ret
    exact ⟨rfl, Lib.hid fun h => absurd h (by decide), hF1⟩
  | true =>
    have HFit := Lib.hid hfit
    obtain ⟨v1, hS1, hv1⟩ := hP1.out hfit
    have HS1 := Lib.hid hS1
    have HV1 := Lib.hid hv1
    have hg1 : w1.cell? ⟨g, o, none⟩ = some (.slice dA nd dc) := (hF1.out.cell (p := ⟨g, o, none⟩) hgl hgT).trans HGc.out
    clear hfit HC hP1 hS1 hv1
    go_wp2_with fail
    go_loopw [18] (fun i wr => ∃ k : Nat, i = .int .i64 k ∧ k ≤ nd ∧ Hid (PutTo W wr T base v (t ++ (WM.enc nd 1 ++ (ds.take k).flatMap WM.domE))) ∧ Hid (Foot (TB T v) W wr) ∧ Hid ((ds.take k).all WM.domOk = true)) (fun i _ => nd - (intOf i).toNat)
    case atStart => exact ⟨0, rfl, Nat.zero_le _, Lib.hid (by rw [List.take_zero, List.flatMap_nil, List.append_nil]; exact ⟨v1, HS1.out, HV1.out⟩), hF1, Lib.hid (by simp)⟩
    case round =>
      obtain ⟨k, rfl, hk, hP, hF, hall⟩ := hrel
      have hsr := hF.out.size
      obtain ⟨vk, hSk, hvk⟩ := hP.out
      obtain ⟨tk, htk0⟩ : ∃ tk, tk = t ++ (WM.enc nd 1 ++ (ds.take k).flatMap WM.domE) := ⟨_, rfl⟩
      have htk : tk.length ≤ 1000000 := by
        rw [htk0, List.length_append, List.length_append, doms_len, WM.enc_len]
        have := List.length_take_le k ds
        have := Hnd.out
        simp only [List.length_take]
        omega
      rw [← htk0] at hSk
      have HS := Lib.hid hSk
      have HTK := Lib.hid htk0
      have HVK := Lib.hid hvk
      have hgr : wr.cell? ⟨g, o, none⟩ = some (.slice dA nd dc) := (hF.out.cell (p := ⟨g, o, none⟩) hgl hgT).trans HGc.out
      clear hSk hvk htk0 hP hg1
      by_cases hlt : k < nd
      · obtain ⟨y, hy⟩ := get_lt (l := ds) (k := k) (by rw [← Hnd.out]; exact hlt)
        obtain ⟨b, off, rfl, hb, hc⟩ := HD.out.at_ hy
        have hbT0 := HDT.out b off rfl hb (by rintro rfl; simp at hy)
        have hbT : ¬ TB T vk b := tb_not HVK.out hb hbT0
        have hbw : b < wr.heap.size := by omega
        have HXi := Lib.hid (HOk.out y (List.mem_of_getElem? hy))
        have f0 := (hF.out.cell (p := ⟨b, off + k * 2, none⟩) hb hbT0).trans (hc k y hy 0 _ rfl)
        have f1 := (hF.out.cell (p := ⟨b, off + k * 2 + 1, none⟩) hb hbT0).trans (hc k y hy 1 _ rfl)
        have Hy := Lib.hid hy
        obtain ⟨x0, x1⟩ := y
        simp only at f0 f1
        clear hy hc hbT0
        go_wp2_with fail
        refine held_begin (fun w' : World => True) (by kernel_rfl) ?_
        have hBm0 : Foot (TB T vk) wr wr.drew := (Foot.refl _ _).drew
        have hSm0 : (fun w' : World => True) wr.drew := trivial
        refine held_take (v := ?_) 0 27 rfl rfl (by kernel_rfl) (by kernel_rfl) (by kernel_rfl) (fun _ _ _ h => h) ⟨by rfl, ?_⟩ hSm0 ?_
        rotate_left
        · intro w' hw'; obtain _ := hw'; go_simp; (try with_reducible rfl)
        simp only [Act.put, List.setIfInBounds_toArray, List.set_cons_zero, List.set_cons_succ]
        refine held_take (v := ?_) 1 28 rfl rfl (by kernel_rfl) (by kernel_rfl) (by kernel_rfl) (fun _ _ _ h => h) ⟨by rfl, ?_⟩ hSm0 ?_
        rotate_left
        · intro w' hw'; obtain _ := hw'; go_simp; (try with_reducible rfl)
        simp only [Act.put, List.setIfInBounds_toArray, List.set_cons_zero, List.set_cons_succ]
        refine held_take (v := ?_) 2 29 rfl rfl (by kernel_rfl) (by kernel_rfl) (by kernel_rfl) (fun _ _ _ h => h) ⟨by rfl, ?_⟩ hSm0 ?_
        rotate_left
        · intro w' hw'; obtain _ := hw'; go_simp; (try with_reducible rfl)
        simp only [Act.put, List.setIfInBounds_toArray, List.set_cons_zero, List.set_cons_succ]
        refine held_take (v := ?_) 3 30 rfl rfl (by kernel_rfl) (by kernel_rfl) (by kernel_rfl) (fun _ _ _ h => h) ⟨by rfl, ?_⟩ hSm0 ?_
        rotate_left
        · intro w' hw'; obtain _ := hw'; go_simp; (try with_reducible rfl)
        simp only [Act.put, List.setIfInBounds_toArray, List.set_cons_zero, List.set_cons_succ]
        refine held_take (v := ?_) 4 31 rfl rfl (by kernel_rfl) (by kernel_rfl) (by kernel_rfl) (fun _ _ _ h => h) ⟨by rfl, ?_⟩ hSm0 ?_
        rotate_left
        · intro w' hw'; obtain _ := hw'; go_simp; (try with_reducible rfl)
        simp only [Act.put, List.setIfInBounds_toArray, List.set_cons_zero, List.set_cons_succ]
        refine held_take (v := ?_) 5 32 rfl rfl (by kernel_rfl) (by kernel_rfl) (by kernel_rfl) (fun _ _ _ h => h) ⟨by rfl, ?_⟩ hSm0 ?_
        rotate_left
        · intro w' hw'; obtain _ := hw'; go_simp; (try with_reducible rfl)
        simp only [Act.put, List.setIfInBounds_toArray, List.set_cons_zero, List.set_cons_succ]
        refine held_take (v := ?_) 6 33 rfl rfl (by kernel_rfl) (by kernel_rfl) (by kernel_rfl) (fun _ _ _ h => h) ⟨by rfl, ?_⟩ hSm0 ?_
        rotate_left
        · intro w' hw'; obtain _ := hw'; go_simp; (try with_reducible rfl)
        simp only [Act.put, List.setIfInBounds_toArray, List.set_cons_zero, List.set_cons_succ]
        refine held_take (v := ?_) 7 34 rfl rfl (by kernel_rfl) (by kernel_rfl) (by kernel_rfl) (fun _ _ _ h => h) ⟨by rfl, ?_⟩ hSm0 ?_
        rotate_left
        · intro w' hw'; obtain _ := hw'; go_simp; (try with_reducible rfl)
        simp only [Act.put, List.setIfInBounds_toArray, List.set_cons_zero, List.set_cons_succ]
        refine held_take (v := ?_) 8 35 rfl rfl (by kernel_rfl) (by kernel_rfl) (by kernel_rfl) (fun _ _ _ h => h) ⟨by rfl, ?_⟩ hSm0 ?_
        rotate_left
        · intro w' hw'; obtain _ := hw'; go_simp; (try with_reducible rfl)
        simp only [Act.put, List.setIfInBounds_toArray, List.set_cons_zero, List.set_cons_succ]
        refine held_one 9 rfl (by kernel_rfl) (by rfl) (fun K hK => ?_)
        go_simp
        obtain ⟨wm1, hwm1⟩ : ∃ wld, wld = (wr.alloc (.cells #[.pointer (some ⟨b, off + k * 2, none⟩), .int .i64 1, .pointer (some ⟨b, off + k * 2 + 1, none⟩), .int .i64 2] 92)).drew := ⟨_, rfl⟩
        have hBm1 : Foot (TB T vk) wr wm1 := by rw [hwm1]; exact ((Foot.refl _ _).alloc _).drew
        have hSm1 : (fun w' : World => True) wm1 := trivial
        have hbl : Below wr.heap.size wr wm1 := by rw [hwm1]; exact ((Below.refl _ _).alloc (Nat.le_refl _) _).drew
        have HR : Hid (wm1.heap[wr.heap.size]? = some (.cells #[.pointer (some ⟨b, off + k * 2, none⟩), .int .i64 1, .pointer (some ⟨b, off + k * 2 + 1, none⟩), .int .i64 2] 92 (0, 0))) := Lib.hid (by rw [hwm1]; exact heap_alloc_new _ _)
        have hNm : NumsAt wm1 [(b, off + k * 2, 1), (b, off + k * 2 + 1, 2)] [x0, x1] := ⟨rfl, fun i y u hy hu => by
          match i with
          | 0 => simp at hy hu; subst hy; subst hu; exact ⟨(hbl.cell (p := ⟨b, off + k * 2, none⟩) hbw).trans f0, HXi.out.1⟩
          | 1 => simp at hy hu; subst hy; subst hu; exact ⟨(hbl.cell (p := ⟨b, off + k * 2 + 1, none⟩) hbw).trans f1, HXi.out.2⟩
          | i + 2 => simp at hy⟩
        refine hK.out _ _ trivial ?_
        clear hK K
        try simp only [Act.put, List.setIfInBounds_toArray, List.set_cons_zero, List.set_cons_succ]
        rw [← hwm1]
        have Hwm1 := Lib.hid hwm1
        clear hwm1
        refine held_one 10 rfl (by kernel_rfl) (by rfl) (fun K hK => ?_)
        go_simp
        go_at_call 27
        refine (clput_row T base tk vk wr wm1 hbl [(b, off + k * 2, 1), (b, off + k * 2 + 1, 2)] [x0, x1] _ rfl HR.out HS.out htk b 2 rfl hbw hbT (fun x hx => by simp at hx; rcases hx with rfl | rfl <;> simp) (by simp) hNm).mono ?_
        rintro e wm2 ⟨rfl, hP, hbm2⟩
        have hBm2 : Foot (TB T vk) wr wm2 := hBm1.trans hbm2 (fun i hi => .inl hi)
        have hSm2 : (fun w' : World => True) wm2 := trivial
        refine hK.out _ _ hSm2 ?_
        clear hK K
        refine held_take (v := ?_) 11 38 rfl rfl (by kernel_rfl) (by kernel_rfl) (by kernel_rfl) (fun _ _ _ h => h) ⟨by rfl, ?_⟩ hSm2 ?_
        rotate_left
        · intro w' hw'; obtain _ := hw'; go_simp; (try with_reducible rfl)
        simp only [Act.put, List.setIfInBounds_toArray, List.set_cons_zero, List.set_cons_succ]
        refine wpAnyH_done (by kernel_rfl) ?_ _
        obtain ⟨dd, hdd⟩ : ∃ dd, dd = WM.domOk (x0, x1) := ⟨_, rfl⟩
        have hff : fitF [(b, off + k * 2, 1), (b, off + k * 2 + 1, 2)] [x0, x1] = dd := by rw [fit_two, hdd]; rfl
        rw [hff] at hP ⊢
        have HP := Lib.hid hP.out
        have HFE : Hid (Foot (TB T v) W wm2) := Lib.hid (PutTo.foot HVK.out hF.out hBm2)
        clear hP f0 f1 hBm0 hBm1 hBm2 hSm0 hSm1 hSm2 hNm HR hbl hbm2 hff
        cases dd with
        | true =>
          have HN : Hid (PutTo W wm2 T base v (t ++ (WM.enc nd 1 ++ (ds.take (k + 1)).flatMap WM.domE))) := Lib.hid (PutTo.step HVK.out hsr (by
            have h9 := HP.out rfl
            rw [enc_two, HTK.out, List.append_assoc, List.append_assoc] at h9
            rw [flat_next WM.domE Hy.out]
            exact h9))
          have HA : Hid ((ds.take (k + 1)).all WM.domOk = true) := Lib.hid (all_next Hy.out hall.out hdd.symm)
          clear HP
          go_wp2_with fail
          go_roundw
          case rel => exact ⟨k + 1, by go_num, by omega, HN, HFE, HA⟩
          case measure => simp [intOf]; omega
        | false =>
          obtain rfl : R = false := by rw [HRR.out, WM.nodOk, all_no Hy.out hdd.symm, Bool.and_false]
          go_wp2_with fail
          go_ret
          exact ⟨rfl, Lib.hid fun h => absurd h (by decide), HFE⟩
      · obtain rfl : k = nd := by omega
        have htk9 : ds.take k = ds := List.take_of_length_le (by rw [← Hnd.out]; exact Nat.le_refl _)
        obtain rfl : R = true := by rw [HRR.out, WM.nodOk, ← Hnd.out, HFit.out, ← htk9, hall.out]; rfl
        have HN : Hid (PutTo W wr T base v (t ++ WM.nodE ds)) := Lib.hid ⟨vk, by
          have h9 := HS.out
          rw [HTK.out, htk9] at h9
          unfold WM.nodE
          rw [← Hnd.out]
          exact h9, HVK.out⟩
        clear htk9
        go_wp2_with fail
        go_ret
        exact ⟨rfl, Lib.hid HN.out, hF⟩
structure Nd where
  A : Option Addr
  c : Nat
  ds : List (Int × Int)
structure Cm where
  nA : Option Addr
  nc : Nat
  ns : List Nd
  qA : Option Addr
  qc : Nat
  qs : List (Int × Int × Int)
  w : Int
  t : Int
  r : Int
  a : Int
def ndC (x : Nd) : List Value := [.slice x.A x.ds.length x.c]
def Cm.cf (m : Cm) : WM.Cf := ⟨m.ns.map (·.ds), m.qs, m.w, m.t, m.r, m.a⟩
def cmA (m : Cm) : Array Value := #[.slice m.nA m.ns.length m.nc, .slice m.qA m.qs.length m.qc, .int .i64 m.w, .int .i64 m.t, .int .i64 m.r, .int .i64 m.a]
def cmV (m : Cm) : Value := .agg (cmA m)
structure CmIn (W : World) (B : Nat) (m : Cm) : Prop where
  ns : Els ndC 1 W B m.nA m.ns
  ds : ∀ n ∈ m.ns, Els dmC 2 W B n.A n.ds
  qs : Els quC 3 W B m.qA m.qs
structure CmOk (m : Cm) : Prop where
  w : I64 m.w
  t : I64 m.t
  r : I64 m.r
  a : I64 m.a
  ds : ∀ n ∈ m.ns, ∀ x ∈ n.ds, DmOk x
  qs : ∀ q ∈ m.qs, QuOk q
/-- Has a configuration few parts? -/
structure CmFew (m : Cm) : Prop where
  ns : m.ns.length ≤ 300
  qs : m.qs.length ≤ 300
  ds : (m.ns.map (·.ds.length)).sum ≤ 600
theorem low_tb {W : World} {T base : Nat} {t : List UInt8} {v : Value} (h : PutSt W T base t v) {i : Nat} (hi : i < T) : ¬ TB T v i := by
  rintro (e | e)
  · omega
  · have := (h.own.lt i e).1; have := h.bT; omega
theorem nodE_len (l : List (Int × Int)) : (WM.nodE l).length = 1 + 3 * l.length := by unfold WM.nodE; rw [List.length_append, doms_len, WM.enc_len]
theorem nods_len (l : List Nd) : (l.flatMap fun n => WM.nodE n.ds).length = l.length + 3 * (l.map (·.ds.length)).sum := by
  induction l with
  | nil => rfl
  | cons x l ih => rw [List.flatMap_cons, List.length_append, ih, nodE_len, List.length_cons, List.map_cons, List.sum_cons]; omega
theorem sum_take (l : List Nat) (k : Nat) : (l.take k).sum ≤ l.sum := by
  have h : l.sum = (l.take k).sum + (l.drop k).sum := by rw [← List.sum_append, List.take_append_drop]
  omega
theorem nods_take (l : List Nd) (k : Nat) (h1 : l.length ≤ 300) (h2 : (l.map (·.ds.length)).sum ≤ 600) : ((l.take k).flatMap fun n => WM.nodE n.ds).length ≤ 2100 := by
  rw [nods_len, List.map_take]
  have := sum_take (l.map (·.ds.length)) k
  have : (l.take k).length ≤ l.length := by simp; omega
  omega
theorem ques_len (l : List (Int × Int × Int)) : (l.flatMap WM.queE).length = 7 * l.length := by
  induction l with
  | nil => rfl
  | cons x l ih => rw [List.flatMap_cons, List.length_append, ih, List.length_cons]; simp [WM.queE, WM.enc_len]; omega
theorem mem_le {l : List Nd} {n : Nd} (h : n ∈ l) : n.ds.length ≤ (l.map (·.ds.length)).sum := by
  induction l with
  | nil => simp at h
  | cons x l ih =>
    rw [List.map_cons, List.sum_cons]
    rcases List.mem_cons.1 h with rfl | h
    · omega
    · have := ih h; omega
theorem els_to {α : Type} {C : α → List Value} {k B B' : Nat} {w w' : World} {A : Option Addr} {l : List α} (h : Els C k w B A l) (hB : B ≤ B') (hk : ∀ b off, A = some ⟨b, off, none⟩ → b < B → w'.heap[b]? = w.heap[b]?) : Els C k w' B' A l := (h.off hk).imp hB fun _ _ _ _ hd => hd
set_option maxHeartbeats 8000000 in
theorem parts_put (T base : Nat) (v : Value) (W : World) (h : PutSt W T base [] v) (p : Nat) (hp : p < T) (m : Cm) (hcm : W.heap[p]? = some (.cells (cmA m) 33 (0, 0))) (B : Nat) (hB : B ≤ T) (hI : CmIn W B m) (hO : CmOk m) (hf : CmFew m) :
    Calls Try.prog 26 #[.pointer (some ⟨p, 0, none⟩), putCl T] W fun e W' => e = .returned (.bool (WM.cfOk m.cf)) ∧ Hid (WM.cfOk m.cf = true → PutTo W W' T base v (WM.cfE m.cf)) ∧ Hid (Foot (TB T v) W W') := by
  have HI := Lib.hid hI
  have HOk := Lib.hid hO
  have HFw := Lib.hid hf
  have HCm := Lib.hid hcm
  have HLow := Lib.hid (fun i (hi : i < T) => low_tb h hi)
  obtain ⟨nn, hnn⟩ : ∃ nn, nn = m.ns.length := ⟨_, rfl⟩
  obtain ⟨nq, hnq⟩ : ∃ nq, nq = m.qs.length := ⟨_, rfl⟩
  have hnn3 : nn ≤ 300 := by rw [hnn]; exact hf.ns
  have hnq3 : nq ≤ 300 := by rw [hnq]; exact hf.qs
  have hTl : T < W.heap.size := blk_lt h.cell
  have hpl : p < W.heap.size := by omega
  obtain ⟨c0, c1, c2, c3, c4, c5⟩ := cells6 (show W.heap[p]? = some (.cells #[.slice m.nA m.ns.length m.nc, .slice m.qA m.qs.length m.qc, .int .i64 m.w, .int .i64 m.t, .int .i64 m.r, .int .i64 m.a] 33 (0, 0)) from hcm)
  rw [← hnn] at c0
  rw [← hnq] at c1
  obtain ⟨nA, hnA⟩ : ∃ x, x = m.nA := ⟨_, rfl⟩
  obtain ⟨qA, hqA⟩ : ∃ x, x = m.qA := ⟨_, rfl⟩
  rw [← hnA] at c0
  rw [← hqA] at c1
  have HNs : Hid (Els ndC 1 W B nA m.ns) := Lib.hid (by rw [hnA]; exact hI.ns)
  have HQs : Hid (Els quC 3 W B qA m.qs) := Lib.hid (by rw [hqA]; exact hI.qs)
  clear hnA hqA
  have HC := Lib.hid (cntnode_any T base [] v W h (by simp) p 0 nn m.nc nA (by unfold maxLen; omega) c0 (low_tb h hp))
  have HX := Lib.hid (fun W2 (hF : Foot (TB T v) W W2) => (show (W2.cell? ⟨p, 0, none⟩ = some (.slice nA nn m.nc) ∧ W2.cell? ⟨p, 1, none⟩ = some (.slice qA nq m.qc) ∧ W2.cell? ⟨p, 2, none⟩ = some (.int .i64 m.w) ∧ W2.cell? ⟨p, 3, none⟩ = some (.int .i64 m.t) ∧ W2.cell? ⟨p, 4, none⟩ = some (.int .i64 m.r) ∧ W2.cell? ⟨p, 5, none⟩ = some (.int .i64 m.a)) from
    ⟨(hF.cell (p := ⟨p, 0, none⟩) hpl (low_tb h hp)).trans c0, (hF.cell (p := ⟨p, 1, none⟩) hpl (low_tb h hp)).trans c1, (hF.cell (p := ⟨p, 2, none⟩) hpl (low_tb h hp)).trans c2, (hF.cell (p := ⟨p, 3, none⟩) hpl (low_tb h hp)).trans c3, (hF.cell (p := ⟨p, 4, none⟩) hpl (low_tb h hp)).trans c4, (hF.cell (p := ⟨p, 5, none⟩) hpl (low_tb h hp)).trans c5⟩))
  have Hnn := Lib.hid hnn
  have Hnq := Lib.hid hnq
  obtain ⟨R, hR⟩ : ∃ R, R = WM.cfOk m.cf := ⟨_, rfl⟩
  rw [← hR]
  have HRR := Lib.hid hR
  have HH := Lib.hid h
  clear h hI hO hf hcm hnn hnq c0 c1 c2 c3 c4 c5 hR
  go_enter Try.func26, Try.ntmps26
  go_wp2_with fail
  refine HC.out.mono ?_
  rintro e w1 ⟨rfl, hP1, hF1⟩
  have hs1 := hF1.out.size
  cases hfit : WM.fit nn 1 with
  | false =>
    obtain rfl : R = false := by rw [HRR.out]; unfold WM.cfOk Cm.cf; simp only [List.length_map]; rw [← Hnn.out, hfit]; rfl
    clear hfit HC hP1
    go_wp2_with fail
    go_ret
    exact ⟨rfl, Lib.hid fun h => absurd h (by decide), hF1⟩
  | true =>
    have HFit := Lib.hid hfit
    obtain ⟨v1, hS1, hv1⟩ := hP1.out hfit
    have HS1 := Lib.hid hS1
    have HV1 := Lib.hid hv1
    obtain ⟨c0, c1, c2, c3, c4, c5⟩ := HX.out w1 hF1.out
    clear hfit HC hP1 hS1 hv1
    go_wp2_with fail
    go_loopw [21] (fun i wr => ∃ k : Nat, i = .int .i64 k ∧ k ≤ nn ∧ Hid (PutTo W wr T base v (WM.enc nn 1 ++ (m.ns.take k).flatMap fun n => WM.nodE n.ds)) ∧ Hid (Foot (TB T v) W wr) ∧ Hid ((m.ns.take k).all (fun n => WM.nodOk n.ds) = true)) (fun i _ => nn - (intOf i).toNat)
    case atStart => exact ⟨0, rfl, Nat.zero_le _, Lib.hid (by rw [List.take_zero, List.flatMap_nil, List.append_nil]; exact ⟨v1, HS1.out, HV1.out⟩), hF1, Lib.hid (by simp)⟩
    case round =>
      clear c0 c1 c2 c3 c4 c5
      obtain ⟨k, rfl, hk, hP, hF, hall⟩ := hrel
      have hsr := hF.out.size
      obtain ⟨vk, hSk, hvk⟩ := hP.out
      obtain ⟨tk, htk0⟩ : ∃ tk, tk = WM.enc nn 1 ++ (m.ns.take k).flatMap fun n => WM.nodE n.ds := ⟨_, rfl⟩
      have htk : tk.length ≤ 2200 := by
        rw [htk0, List.length_append, WM.enc_len]
        have := nods_take m.ns k HFw.out.ns HFw.out.ds
        omega
      rw [← htk0] at hSk
      have HS := Lib.hid hSk
      have HTK := Lib.hid htk0
      have HVK := Lib.hid hvk
      obtain ⟨c0, c1, c2, c3, c4, c5⟩ := HX.out wr hF.out
      clear hSk hvk htk0 hP
      by_cases hlt : k < nn
      · obtain ⟨y, hy⟩ := get_lt (l := m.ns) (k := k) (by rw [← Hnn.out]; exact hlt)
        obtain ⟨b, off, rfl, hb, hc⟩ := HNs.out.at_ hy
        have hbT0 := HLow.out b (by omega)
        have hbl2 : b < W.heap.size := by omega
        have f0 := (hF.out.cell (p := ⟨b, off + k * 1, none⟩) hbl2 hbT0).trans (hc k y hy 0 _ rfl)
        rw [Nat.mul_one] at f0
        have hdl : y.ds.length ≤ 600 := Nat.le_trans (mem_le (List.mem_of_getElem? hy)) HFw.out.ds
        have hED : Els dmC 2 wr wr.heap.size y.A y.ds := by
          refine els_to (HI.out.ds y (List.mem_of_getElem? hy)) (by omega) fun b2 off2 e hb2 => hF.out.block b2 (by omega) (HLow.out b2 (by omega))
        have HDm := Lib.hid (domains_put T base tk vk wr HS.out b (off + k) y.ds.length y.c y.A y.ds rfl (by omega) (by omega) f0 (tb_not HVK.out hbl2 hbT0) hED (fun b2 off2 e hb2 hne => by
          rcases HI.out.ds y (List.mem_of_getElem? hy) with h9 | ⟨b3, off3, e3, hb3, _⟩
          · exact absurd h9 hne
          · rw [e] at e3
            cases e3
            exact tb_not HVK.out (by omega) (HLow.out b2 (by omega))) (HOk.out.ds y (List.mem_of_getElem? hy)))
        have Hy := Lib.hid hy
        clear hy hc hbT0 hED f0
        obtain ⟨dd, hdd⟩ : ∃ dd, dd = WM.nodOk y.ds := ⟨_, rfl⟩
        rw [← hdd] at HDm
        have HDD := Lib.hid hdd
        clear hdd
        have hk1 : off + k * 1 = off + k := by omega
        go_wp2_with fail
        refine HDm.out.mono ?_
        rintro e w3 ⟨rfl, hP3, hF3⟩
        have HP := Lib.hid hP3.out
        have HFE : Hid (Foot (TB T v) W w3) := Lib.hid (PutTo.foot HVK.out hF.out hF3.out)
        clear hP3 hF3 HDm c0 c1 c2 c3 c4 c5
        cases dd with
        | true =>
          have HN : Hid (PutTo W w3 T base v (WM.enc nn 1 ++ (m.ns.take (k + 1)).flatMap fun n => WM.nodE n.ds)) := Lib.hid (PutTo.step HVK.out hsr (by
            have h9 := HP.out rfl
            rw [HTK.out, List.append_assoc] at h9
            rw [flat_next (fun n : Nd => WM.nodE n.ds) Hy.out]
            exact h9))
          have HA : Hid ((m.ns.take (k + 1)).all (fun n => WM.nodOk n.ds) = true) := Lib.hid (all_next Hy.out hall.out HDD.out.symm)
          clear HP
          go_wp2_with fail
          go_roundw
          case rel => exact ⟨k + 1, by go_num, by omega, HN, HFE, HA⟩
          case measure => simp [intOf]; omega
        | false =>
          obtain rfl : R = false := by
            rw [HRR.out]
            unfold WM.cfOk Cm.cf
            have h9 : (m.ns.map (·.ds)).all WM.nodOk = false := by
              rw [List.all_map]
              exact all_no (p := fun n : Nd => WM.nodOk n.ds) Hy.out HDD.out.symm
            simp [h9]
          go_wp2_with fail
          go_ret
          exact ⟨rfl, Lib.hid fun h => absurd h (by decide), HFE⟩
      · obtain rfl : k = nn := by omega
        have htk9 : m.ns.take k = m.ns := List.take_of_length_le (by rw [← Hnn.out]; exact Nat.le_refl _)
        have HAll : Hid (m.ns.all (fun n => WM.nodOk n.ds) = true) := Lib.hid (by have := hall.out; rwa [htk9] at this)
        rw [htk9] at HTK
        have HC2 := Lib.hid (cntqueue_any T base tk vk wr HS.out (by omega) p 1 nq m.qc qA (by unfold maxLen; omega) c1 (tb_not HVK.out hpl (HLow.out p hp)))
        clear htk9 hall
        go_wp2_with fail
        refine HC2.out.mono ?_
        rintro e w4 ⟨rfl, hP4, hF4⟩
        have HF4 : Hid (Foot (TB T v) W w4) := Lib.hid (PutTo.foot HVK.out hF.out hF4.out)
        have hs4 := HF4.out.size
        cases hfq : WM.fit nq 1 with
        | false =>
          obtain rfl : R = false := by rw [HRR.out]; unfold WM.cfOk Cm.cf; simp only; rw [← Hnq.out, hfq]; simp
          clear hfq HC2 hP4 hF4
          go_wp2_with fail
          go_ret
          exact ⟨rfl, Lib.hid fun h => absurd h (by decide), HF4⟩
        | true =>
          have HFitq := Lib.hid hfq
          have HP4 : Hid (PutTo W w4 T base v (tk ++ WM.enc nq 1)) := Lib.hid (PutTo.step HVK.out hsr (hP4.out hfq))
          clear c0 c1 c2 c3 c4 c5
          obtain ⟨c0, c1, c2, c3, c4, c5⟩ := HX.out w4 HF4.out
          clear hfq HC2 hP4 hF4 HVK HS hF hsr
          obtain ⟨tn, htn⟩ : ∃ tn, tn = tk := ⟨_, rfl⟩
          rw [← htn] at HTK HP4
          have htnl : tn.length ≤ 2200 := by rw [htn]; exact htk
          clear htn htk
          go_wp2_with fail
          go_loopw [46] (fun i wr => ∃ k : Nat, i = .int .i64 k ∧ k ≤ nq ∧ Hid (PutTo W wr T base v (tn ++ (WM.enc nq 1 ++ (m.qs.take k).flatMap WM.queE))) ∧ Hid (Foot (TB T v) W wr) ∧ Hid ((m.qs.take k).all WM.queOk = true)) (fun i _ => nq - (intOf i).toNat)
          case atStart => exact ⟨0, rfl, Nat.zero_le _, Lib.hid (by rw [List.take_zero, List.flatMap_nil, List.append_nil]; exact HP4.out), HF4, Lib.hid (by simp)⟩
          case round =>
            clear c0 c1 c2 c3 c4 c5 hs4
            obtain ⟨k, rfl, hk, hP, hF, hall⟩ := hrel
            have hsr := hF.out.size
            obtain ⟨vk, hSk, hvk⟩ := hP.out
            obtain ⟨tk, htk0⟩ : ∃ tk, tk = tn ++ (WM.enc nq 1 ++ (m.qs.take k).flatMap WM.queE) := ⟨_, rfl⟩
            have htk : tk.length ≤ 1000000 := by
              rw [htk0, List.length_append, List.length_append, ques_len, WM.enc_len]
              have := Hnq.out
              simp only [List.length_take]
              omega
            rw [← htk0] at hSk
            have HS := Lib.hid hSk
            have HTQ := Lib.hid htk0
            have HVK := Lib.hid hvk
            obtain ⟨c0, c1, c2, c3, c4, c5⟩ := HX.out wr hF.out
            have hpk : ¬ TB T vk p := tb_not HVK.out hpl (HLow.out p hp)
            have hpw : p < wr.heap.size := by omega
            clear hSk hvk htk0 hP
            by_cases hlt : k < nq
            · obtain ⟨y, hy⟩ := get_lt (l := m.qs) (k := k) (by rw [← Hnq.out]; exact hlt)
              obtain ⟨b, off, rfl, hb, hc⟩ := HQs.out.at_ hy
              have hbT0 := HLow.out b (by omega)
              have hbl2 : b < W.heap.size := by omega
              have hbT : ¬ TB T vk b := tb_not HVK.out hbl2 hbT0
              have hbw : b < wr.heap.size := by omega
              have HXi := Lib.hid (HOk.out.qs y (List.mem_of_getElem? hy))
              have f0 := (hF.out.cell (p := ⟨b, off + k * 3, none⟩) hbl2 hbT0).trans (hc k y hy 0 _ rfl)
              have f1 := (hF.out.cell (p := ⟨b, off + k * 3 + 1, none⟩) hbl2 hbT0).trans (hc k y hy 1 _ rfl)
              have f2 := (hF.out.cell (p := ⟨b, off + k * 3 + 2, none⟩) hbl2 hbT0).trans (hc k y hy 2 _ rfl)
              have Hy := Lib.hid hy
              obtain ⟨x0, x1, x2⟩ := y
              simp only at f0 f1 f2
              clear hy hc hbT0
              go_wp2_with fail
              refine held_begin (fun w' : World => True) (by kernel_rfl) ?_
              have hBm0 : Foot (TB T vk) wr wr.drew := (Foot.refl _ _).drew
              have hSm0 : (fun w' : World => True) wr.drew := trivial
              refine held_take (v := ?_) 0 55 rfl rfl (by kernel_rfl) (by kernel_rfl) (by kernel_rfl) (fun _ _ _ h => h) ⟨by rfl, ?_⟩ hSm0 ?_
              rotate_left
              · intro w' hw'; obtain _ := hw'; go_simp; (try with_reducible rfl)
              simp only [Act.put, List.setIfInBounds_toArray, List.set_cons_zero, List.set_cons_succ]
              refine held_take (v := ?_) 1 56 rfl rfl (by kernel_rfl) (by kernel_rfl) (by kernel_rfl) (fun _ _ _ h => h) ⟨by rfl, ?_⟩ hSm0 ?_
              rotate_left
              · intro w' hw'; obtain _ := hw'; go_simp; (try with_reducible rfl)
              simp only [Act.put, List.setIfInBounds_toArray, List.set_cons_zero, List.set_cons_succ]
              refine held_take (v := ?_) 2 57 rfl rfl (by kernel_rfl) (by kernel_rfl) (by kernel_rfl) (fun _ _ _ h => h) ⟨by rfl, ?_⟩ hSm0 ?_
              rotate_left
              · intro w' hw'; obtain _ := hw'; go_simp; (try with_reducible rfl)
              simp only [Act.put, List.setIfInBounds_toArray, List.set_cons_zero, List.set_cons_succ]
              refine held_take (v := ?_) 3 58 rfl rfl (by kernel_rfl) (by kernel_rfl) (by kernel_rfl) (fun _ _ _ h => h) ⟨by rfl, ?_⟩ hSm0 ?_
              rotate_left
              · intro w' hw'; obtain _ := hw'; go_simp; (try with_reducible rfl)
              simp only [Act.put, List.setIfInBounds_toArray, List.set_cons_zero, List.set_cons_succ]
              refine held_take (v := ?_) 4 59 rfl rfl (by kernel_rfl) (by kernel_rfl) (by kernel_rfl) (fun _ _ _ h => h) ⟨by rfl, ?_⟩ hSm0 ?_
              rotate_left
              · intro w' hw'; obtain _ := hw'; go_simp; (try with_reducible rfl)
              simp only [Act.put, List.setIfInBounds_toArray, List.set_cons_zero, List.set_cons_succ]
              refine held_take (v := ?_) 5 60 rfl rfl (by kernel_rfl) (by kernel_rfl) (by kernel_rfl) (fun _ _ _ h => h) ⟨by rfl, ?_⟩ hSm0 ?_
              rotate_left
              · intro w' hw'; obtain _ := hw'; go_simp; (try with_reducible rfl)
              simp only [Act.put, List.setIfInBounds_toArray, List.set_cons_zero, List.set_cons_succ]
              refine held_take (v := ?_) 6 61 rfl rfl (by kernel_rfl) (by kernel_rfl) (by kernel_rfl) (fun _ _ _ h => h) ⟨by rfl, ?_⟩ hSm0 ?_
              rotate_left
              · intro w' hw'; obtain _ := hw'; go_simp; (try with_reducible rfl)
              simp only [Act.put, List.setIfInBounds_toArray, List.set_cons_zero, List.set_cons_succ]
              refine held_take (v := ?_) 7 62 rfl rfl (by kernel_rfl) (by kernel_rfl) (by kernel_rfl) (fun _ _ _ h => h) ⟨by rfl, ?_⟩ hSm0 ?_
              rotate_left
              · intro w' hw'; obtain _ := hw'; go_simp; (try with_reducible rfl)
              simp only [Act.put, List.setIfInBounds_toArray, List.set_cons_zero, List.set_cons_succ]
              refine held_take (v := ?_) 8 63 rfl rfl (by kernel_rfl) (by kernel_rfl) (by kernel_rfl) (fun _ _ _ h => h) ⟨by rfl, ?_⟩ hSm0 ?_
              rotate_left
              · intro w' hw'; obtain _ := hw'; go_simp; (try with_reducible rfl)
              simp only [Act.put, List.setIfInBounds_toArray, List.set_cons_zero, List.set_cons_succ]
              refine held_take (v := ?_) 9 64 rfl rfl (by kernel_rfl) (by kernel_rfl) (by kernel_rfl) (fun _ _ _ h => h) ⟨by rfl, ?_⟩ hSm0 ?_
              rotate_left
              · intro w' hw'; obtain _ := hw'; go_simp; (try with_reducible rfl)
              simp only [Act.put, List.setIfInBounds_toArray, List.set_cons_zero, List.set_cons_succ]
              refine held_take (v := ?_) 10 65 rfl rfl (by kernel_rfl) (by kernel_rfl) (by kernel_rfl) (fun _ _ _ h => h) ⟨by rfl, ?_⟩ hSm0 ?_
              rotate_left
              · intro w' hw'; obtain _ := hw'; go_simp; (try with_reducible rfl)
              simp only [Act.put, List.setIfInBounds_toArray, List.set_cons_zero, List.set_cons_succ]
              refine held_take (v := ?_) 11 66 rfl rfl (by kernel_rfl) (by kernel_rfl) (by kernel_rfl) (fun _ _ _ h => h) ⟨by rfl, ?_⟩ hSm0 ?_
              rotate_left
              · intro w' hw'; obtain _ := hw'; go_simp; (try with_reducible rfl)
              simp only [Act.put, List.setIfInBounds_toArray, List.set_cons_zero, List.set_cons_succ]
              refine held_take (v := ?_) 12 67 rfl rfl (by kernel_rfl) (by kernel_rfl) (by kernel_rfl) (fun _ _ _ h => h) ⟨by rfl, ?_⟩ hSm0 ?_
              rotate_left
              · intro w' hw'; obtain _ := hw'; go_simp; (try with_reducible rfl)
              simp only [Act.put, List.setIfInBounds_toArray, List.set_cons_zero, List.set_cons_succ]
              refine held_take (v := ?_) 13 68 rfl rfl (by kernel_rfl) (by kernel_rfl) (by kernel_rfl) (fun _ _ _ h => h) ⟨by rfl, ?_⟩ hSm0 ?_
              rotate_left
              · intro w' hw'; obtain _ := hw'; go_simp; (try with_reducible rfl)
              simp only [Act.put, List.setIfInBounds_toArray, List.set_cons_zero, List.set_cons_succ]
              refine held_take (v := ?_) 14 69 rfl rfl (by kernel_rfl) (by kernel_rfl) (by kernel_rfl) (fun _ _ _ h => h) ⟨by rfl, ?_⟩ hSm0 ?_
              rotate_left
              · intro w' hw'; obtain _ := hw'; go_simp; (try with_reducible rfl)
              simp only [Act.put, List.setIfInBounds_toArray, List.set_cons_zero, List.set_cons_succ]
              refine held_one 15 rfl (by kernel_rfl) (by rfl) (fun K hK => ?_)
              go_simp
              obtain ⟨wm1, hwm1⟩ : ∃ wld, wld = (wr.alloc (.cells #[.pointer (some ⟨b, off + k * 3, none⟩), .int .i64 3, .pointer (some ⟨b, off + k * 3 + 1, none⟩), .int .i64 3, .pointer (some ⟨b, off + k * 3 + 2, none⟩), .int .i64 1] 92)).drew := ⟨_, rfl⟩
              have hBm1 : Foot (TB T vk) wr wm1 := by rw [hwm1]; exact ((Foot.refl _ _).alloc _).drew
              have hSm1 : (fun w' : World => True) wm1 := trivial
              have hbl : Below wr.heap.size wr wm1 := by rw [hwm1]; exact ((Below.refl _ _).alloc (Nat.le_refl _) _).drew
              have HR : Hid (wm1.heap[wr.heap.size]? = some (.cells #[.pointer (some ⟨b, off + k * 3, none⟩), .int .i64 3, .pointer (some ⟨b, off + k * 3 + 1, none⟩), .int .i64 3, .pointer (some ⟨b, off + k * 3 + 2, none⟩), .int .i64 1] 92 (0, 0))) := Lib.hid (by rw [hwm1]; exact heap_alloc_new _ _)
              have hNm : NumsAt wm1 [(b, off + k * 3, 3), (b, off + k * 3 + 1, 3), (b, off + k * 3 + 2, 1)] [x0, x1, x2] := ⟨rfl, fun i y u hy hu => by
                match i with
                | 0 => simp at hy hu; subst hy; subst hu; exact ⟨(hbl.cell (p := ⟨b, off + k * 3, none⟩) hbw).trans f0, HXi.out.1⟩
                | 1 => simp at hy hu; subst hy; subst hu; exact ⟨(hbl.cell (p := ⟨b, off + k * 3 + 1, none⟩) hbw).trans f1, HXi.out.2.1⟩
                | 2 => simp at hy hu; subst hy; subst hu; exact ⟨(hbl.cell (p := ⟨b, off + k * 3 + 2, none⟩) hbw).trans f2, HXi.out.2.2⟩
                | i + 3 => simp at hy⟩
              refine hK.out _ _ trivial ?_
              clear hK K
              try simp only [Act.put, List.setIfInBounds_toArray, List.set_cons_zero, List.set_cons_succ]
              rw [← hwm1]
              have Hwm1 := Lib.hid hwm1
              clear hwm1
              refine held_one 16 rfl (by kernel_rfl) (by rfl) (fun K hK => ?_)
              go_simp
              go_at_call 27
              refine (clput_row T base tk vk wr wm1 hbl [(b, off + k * 3, 3), (b, off + k * 3 + 1, 3), (b, off + k * 3 + 2, 1)] [x0, x1, x2] _ rfl HR.out HS.out htk b 3 rfl hbw hbT (fun x hx => by simp at hx; rcases hx with rfl | rfl | rfl <;> simp) (by simp) hNm).mono ?_
              rintro e wm2 ⟨rfl, hP, hbm2⟩
              have hBm2 : Foot (TB T vk) wr wm2 := hBm1.trans hbm2 (fun i hi => .inl hi)
              have hSm2 : (fun w' : World => True) wm2 := trivial
              refine hK.out _ _ hSm2 ?_
              clear hK K
              refine held_take (v := ?_) 17 72 rfl rfl (by kernel_rfl) (by kernel_rfl) (by kernel_rfl) (fun _ _ _ h => h) ⟨by rfl, ?_⟩ hSm2 ?_
              rotate_left
              · intro w' hw'; obtain _ := hw'; go_simp; (try with_reducible rfl)
              simp only [Act.put, List.setIfInBounds_toArray, List.set_cons_zero, List.set_cons_succ]
              refine wpAnyH_done (by kernel_rfl) ?_ _
              obtain ⟨dd, hdd⟩ : ∃ dd, dd = WM.queOk (x0, x1, x2) := ⟨_, rfl⟩
              have hff : fitF [(b, off + k * 3, 3), (b, off + k * 3 + 1, 3), (b, off + k * 3 + 2, 1)] [x0, x1, x2] = dd := by rw [hdd]; simp [fitF, WM.queOk, Bool.and_assoc]
              rw [hff] at hP ⊢
              have HDD := Lib.hid hdd
              have HP := Lib.hid hP.out
              have HFE : Hid (Foot (TB T v) W wm2) := Lib.hid (PutTo.foot HVK.out hF.out hBm2)
              clear hP f0 f1 f2 hBm0 hBm1 hBm2 hSm0 hSm1 hSm2 hNm HR hbl hbm2 hff hdd c0 c1 c2 c3 c4 c5
              cases dd with
              | true =>
                have HN : Hid (PutTo W wm2 T base v (tn ++ (WM.enc nq 1 ++ (m.qs.take (k + 1)).flatMap WM.queE))) := Lib.hid (PutTo.step HVK.out hsr (by
                  have h9 := HP.out rfl
                  rw [show encF [(b, off + k * 3, 3), (b, off + k * 3 + 1, 3), (b, off + k * 3 + 2, 1)] [x0, x1, x2] = WM.queE (x0, x1, x2) by simp [encF, WM.queE], HTQ.out, List.append_assoc, List.append_assoc] at h9
                  rw [flat_next WM.queE Hy.out]
                  exact h9))
                have HA : Hid ((m.qs.take (k + 1)).all WM.queOk = true) := Lib.hid (all_next Hy.out hall.out HDD.out.symm)
                clear HP
                go_wp2_with fail
                go_roundw
                case rel => exact ⟨k + 1, by go_num, by omega, HN, HFE, HA⟩
                case measure => simp [intOf]; omega
              | false =>
                obtain rfl : R = false := by
                  rw [HRR.out]
                  unfold WM.cfOk Cm.cf
                  simp [all_no Hy.out HDD.out.symm]
                go_wp2_with fail
                go_ret
                exact ⟨rfl, Lib.hid fun h => absurd h (by decide), HFE⟩
            · obtain rfl : k = nq := by omega
              have htk9 : m.qs.take k = m.qs := List.take_of_length_le (by rw [← Hnq.out]; exact Nat.le_refl _)
              have HAq : Hid (m.qs.all WM.queOk = true) := Lib.hid (by have := hall.out; rwa [htk9] at this)
              rw [htk9] at HTQ
              clear htk9 hall
              go_wp2_with fail
              refine held_begin (fun w' : World => True) (by kernel_rfl) ?_
              have hBm0 : Foot (TB T vk) wr wr.drew := (Foot.refl _ _).drew
              have hSm0 : (fun w' : World => True) wr.drew := trivial
              refine held_take (v := ?_) 0 74 rfl rfl (by kernel_rfl) (by kernel_rfl) (by kernel_rfl) (fun _ _ _ h => h) ⟨by rfl, ?_⟩ hSm0 ?_
              rotate_left
              · intro w' hw'; obtain _ := hw'; go_simp; (try with_reducible rfl)
              simp only [Act.put, List.setIfInBounds_toArray, List.set_cons_zero, List.set_cons_succ]
              refine held_take (v := ?_) 1 75 rfl rfl (by kernel_rfl) (by kernel_rfl) (by kernel_rfl) (fun _ _ _ h => h) ⟨by rfl, ?_⟩ hSm0 ?_
              rotate_left
              · intro w' hw'; obtain _ := hw'; go_simp; (try with_reducible rfl)
              simp only [Act.put, List.setIfInBounds_toArray, List.set_cons_zero, List.set_cons_succ]
              refine held_take (v := ?_) 2 76 rfl rfl (by kernel_rfl) (by kernel_rfl) (by kernel_rfl) (fun _ _ _ h => h) ⟨by rfl, ?_⟩ hSm0 ?_
              rotate_left
              · intro w' hw'; obtain _ := hw'; go_simp; (try with_reducible rfl)
              simp only [Act.put, List.setIfInBounds_toArray, List.set_cons_zero, List.set_cons_succ]
              refine held_take (v := ?_) 3 77 rfl rfl (by kernel_rfl) (by kernel_rfl) (by kernel_rfl) (fun _ _ _ h => h) ⟨by rfl, ?_⟩ hSm0 ?_
              rotate_left
              · intro w' hw'; obtain _ := hw'; go_simp; (try with_reducible rfl)
              simp only [Act.put, List.setIfInBounds_toArray, List.set_cons_zero, List.set_cons_succ]
              refine held_take (v := ?_) 4 78 rfl rfl (by kernel_rfl) (by kernel_rfl) (by kernel_rfl) (fun _ _ _ h => h) ⟨by rfl, ?_⟩ hSm0 ?_
              rotate_left
              · intro w' hw'; obtain _ := hw'; go_simp; (try with_reducible rfl)
              simp only [Act.put, List.setIfInBounds_toArray, List.set_cons_zero, List.set_cons_succ]
              refine held_take (v := ?_) 5 79 rfl rfl (by kernel_rfl) (by kernel_rfl) (by kernel_rfl) (fun _ _ _ h => h) ⟨by rfl, ?_⟩ hSm0 ?_
              rotate_left
              · intro w' hw'; obtain _ := hw'; go_simp; (try with_reducible rfl)
              simp only [Act.put, List.setIfInBounds_toArray, List.set_cons_zero, List.set_cons_succ]
              refine held_take (v := ?_) 6 80 rfl rfl (by kernel_rfl) (by kernel_rfl) (by kernel_rfl) (fun _ _ _ h => h) ⟨by rfl, ?_⟩ hSm0 ?_
              rotate_left
              · intro w' hw'; obtain _ := hw'; go_simp; (try with_reducible rfl)
              simp only [Act.put, List.setIfInBounds_toArray, List.set_cons_zero, List.set_cons_succ]
              refine held_take (v := ?_) 7 81 rfl rfl (by kernel_rfl) (by kernel_rfl) (by kernel_rfl) (fun _ _ _ h => h) ⟨by rfl, ?_⟩ hSm0 ?_
              rotate_left
              · intro w' hw'; obtain _ := hw'; go_simp; (try with_reducible rfl)
              simp only [Act.put, List.setIfInBounds_toArray, List.set_cons_zero, List.set_cons_succ]
              refine held_take (v := ?_) 8 82 rfl rfl (by kernel_rfl) (by kernel_rfl) (by kernel_rfl) (fun _ _ _ h => h) ⟨by rfl, ?_⟩ hSm0 ?_
              rotate_left
              · intro w' hw'; obtain _ := hw'; go_simp; (try with_reducible rfl)
              simp only [Act.put, List.setIfInBounds_toArray, List.set_cons_zero, List.set_cons_succ]
              refine held_take (v := ?_) 9 83 rfl rfl (by kernel_rfl) (by kernel_rfl) (by kernel_rfl) (fun _ _ _ h => h) ⟨by rfl, ?_⟩ hSm0 ?_
              rotate_left
              · intro w' hw'; obtain _ := hw'; go_simp; (try with_reducible rfl)
              simp only [Act.put, List.setIfInBounds_toArray, List.set_cons_zero, List.set_cons_succ]
              refine held_take (v := ?_) 10 84 rfl rfl (by kernel_rfl) (by kernel_rfl) (by kernel_rfl) (fun _ _ _ h => h) ⟨by rfl, ?_⟩ hSm0 ?_
              rotate_left
              · intro w' hw'; obtain _ := hw'; go_simp; (try with_reducible rfl)
              simp only [Act.put, List.setIfInBounds_toArray, List.set_cons_zero, List.set_cons_succ]
              refine held_take (v := ?_) 11 85 rfl rfl (by kernel_rfl) (by kernel_rfl) (by kernel_rfl) (fun _ _ _ h => h) ⟨by rfl, ?_⟩ hSm0 ?_
              rotate_left
              · intro w' hw'; obtain _ := hw'; go_simp; (try with_reducible rfl)
              simp only [Act.put, List.setIfInBounds_toArray, List.set_cons_zero, List.set_cons_succ]
              refine held_take (v := ?_) 12 86 rfl rfl (by kernel_rfl) (by kernel_rfl) (by kernel_rfl) (fun _ _ _ h => h) ⟨by rfl, ?_⟩ hSm0 ?_
              rotate_left
              · intro w' hw'; obtain _ := hw'; go_simp; (try with_reducible rfl)
              simp only [Act.put, List.setIfInBounds_toArray, List.set_cons_zero, List.set_cons_succ]
              refine held_take (v := ?_) 13 87 rfl rfl (by kernel_rfl) (by kernel_rfl) (by kernel_rfl) (fun _ _ _ h => h) ⟨by rfl, ?_⟩ hSm0 ?_
              rotate_left
              · intro w' hw'; obtain _ := hw'; go_simp; (try with_reducible rfl)
              simp only [Act.put, List.setIfInBounds_toArray, List.set_cons_zero, List.set_cons_succ]
              refine held_take (v := ?_) 14 88 rfl rfl (by kernel_rfl) (by kernel_rfl) (by kernel_rfl) (fun _ _ _ h => h) ⟨by rfl, ?_⟩ hSm0 ?_
              rotate_left
              · intro w' hw'; obtain _ := hw'; go_simp; (try with_reducible rfl)
              simp only [Act.put, List.setIfInBounds_toArray, List.set_cons_zero, List.set_cons_succ]
              refine held_take (v := ?_) 15 89 rfl rfl (by kernel_rfl) (by kernel_rfl) (by kernel_rfl) (fun _ _ _ h => h) ⟨by rfl, ?_⟩ hSm0 ?_
              rotate_left
              · intro w' hw'; obtain _ := hw'; go_simp; (try with_reducible rfl)
              simp only [Act.put, List.setIfInBounds_toArray, List.set_cons_zero, List.set_cons_succ]
              refine held_take (v := ?_) 16 90 rfl rfl (by kernel_rfl) (by kernel_rfl) (by kernel_rfl) (fun _ _ _ h => h) ⟨by rfl, ?_⟩ hSm0 ?_
              rotate_left
              · intro w' hw'; obtain _ := hw'; go_simp; (try with_reducible rfl)
              simp only [Act.put, List.setIfInBounds_toArray, List.set_cons_zero, List.set_cons_succ]
              refine held_one 17 rfl (by kernel_rfl) (by rfl) (fun K hK => ?_)
              go_simp
              obtain ⟨wm1, hwm1⟩ : ∃ wld, wld = (wr.alloc (.cells #[.pointer (some ⟨p, 2, none⟩), .int .i64 1, .pointer (some ⟨p, 3, none⟩), .int .i64 1, .pointer (some ⟨p, 4, none⟩), .int .i64 2, .pointer (some ⟨p, 5, none⟩), .int .i64 2] 92)).drew := ⟨_, rfl⟩
              have hBm1 : Foot (TB T vk) wr wm1 := by rw [hwm1]; exact ((Foot.refl _ _).alloc _).drew
              have hSm1 : (fun w' : World => True) wm1 := trivial
              have hbl : Below wr.heap.size wr wm1 := by rw [hwm1]; exact ((Below.refl _ _).alloc (Nat.le_refl _) _).drew
              have HR : Hid (wm1.heap[wr.heap.size]? = some (.cells #[.pointer (some ⟨p, 2, none⟩), .int .i64 1, .pointer (some ⟨p, 3, none⟩), .int .i64 1, .pointer (some ⟨p, 4, none⟩), .int .i64 2, .pointer (some ⟨p, 5, none⟩), .int .i64 2] 92 (0, 0))) := Lib.hid (by rw [hwm1]; exact heap_alloc_new _ _)
              have hNm : NumsAt wm1 [(p, 2, 1), (p, 3, 1), (p, 4, 2), (p, 5, 2)] [m.w, m.t, m.r, m.a] := ⟨rfl, fun i y u hy hu => by
                match i with
                | 0 => simp at hy hu; subst hy; subst hu; exact ⟨(hbl.cell (p := ⟨p, 2, none⟩) hpw).trans c2, HOk.out.w⟩
                | 1 => simp at hy hu; subst hy; subst hu; exact ⟨(hbl.cell (p := ⟨p, 3, none⟩) hpw).trans c3, HOk.out.t⟩
                | 2 => simp at hy hu; subst hy; subst hu; exact ⟨(hbl.cell (p := ⟨p, 4, none⟩) hpw).trans c4, HOk.out.r⟩
                | 3 => simp at hy hu; subst hy; subst hu; exact ⟨(hbl.cell (p := ⟨p, 5, none⟩) hpw).trans c5, HOk.out.a⟩
                | i + 4 => simp at hy⟩
              refine hK.out _ _ trivial ?_
              clear hK K
              try simp only [Act.put, List.setIfInBounds_toArray, List.set_cons_zero, List.set_cons_succ]
              rw [← hwm1]
              have Hwm1 := Lib.hid hwm1
              clear hwm1
              refine held_one 18 rfl (by kernel_rfl) (by rfl) (fun K hK => ?_)
              go_simp
              go_at_call 27
              refine (clput_row T base tk vk wr wm1 hbl [(p, 2, 1), (p, 3, 1), (p, 4, 2), (p, 5, 2)] [m.w, m.t, m.r, m.a] _ rfl HR.out HS.out htk p 4 rfl hpw hpk (fun x hx => by simp at hx; rcases hx with rfl | rfl | rfl | rfl <;> simp) (by simp) hNm).mono ?_
              rintro e wm2 ⟨rfl, hP, hbm2⟩
              have hBm2 : Foot (TB T vk) wr wm2 := hBm1.trans hbm2 (fun i hi => .inl hi)
              have hSm2 : (fun w' : World => True) wm2 := trivial
              refine hK.out _ _ hSm2 ?_
              clear hK K
              refine held_take (v := ?_) 19 4 rfl rfl (by kernel_rfl) (by kernel_rfl) (by kernel_rfl) (fun _ _ _ h => h) ⟨by rfl, ?_⟩ hSm2 ?_
              rotate_left
              · intro w' hw'; obtain _ := hw'; go_simp; (try with_reducible rfl)
              simp only [Act.put, List.setIfInBounds_toArray, List.set_cons_zero, List.set_cons_succ]
              refine wpAnyH_done (by kernel_rfl) ?_ _
              obtain ⟨dd, hdd⟩ : ∃ dd, dd = WM.endOk m.cf := ⟨_, rfl⟩
              have hff : fitF [(p, 2, 1), (p, 3, 1), (p, 4, 2), (p, 5, 2)] [m.w, m.t, m.r, m.a] = dd := by rw [hdd]; simp [fitF, WM.endOk, Cm.cf, Bool.and_assoc]
              have hRd : R = dd := by
                rw [HRR.out, hdd]
                unfold WM.cfOk
                have h1 : (m.cf.ns).all WM.nodOk = true := by unfold Cm.cf; rw [List.all_map]; exact HAll.out
                have h2 : (m.cf.qs).all WM.queOk = true := HAq.out
                have h3 : WM.fit m.cf.ns.length 1 = true := by unfold Cm.cf; rw [List.length_map, ← Hnn.out]; exact HFit.out
                have h4 : WM.fit m.cf.qs.length 1 = true := by unfold Cm.cf; simp only; rw [← Hnq.out]; exact HFitq.out
                rw [h1, h2, h3, h4]; rfl
              rw [hff] at hP ⊢
              have HP := Lib.hid hP.out
              have HFE : Hid (Foot (TB T v) W wm2) := Lib.hid (PutTo.foot HVK.out hF.out hBm2)
              clear hBm0 hBm1 hBm2 hSm0 hSm1 hSm2 hNm HR hbl hbm2 hdd hP c0 c1 c2 c3 c4 c5
              subst hRd
              have HN : Hid (R = true → PutTo W wm2 T base v (WM.cfE m.cf)) := Lib.hid fun hh => PutTo.step HVK.out hsr (by
                have h9 := HP.out hh
                rw [HTQ.out, HTK.out, show encF [(p, 2, 1), (p, 3, 1), (p, 4, 2), (p, 5, 2)] [m.w, m.t, m.r, m.a] = WM.endE m.cf by simp [encF, WM.endE, Cm.cf]] at h9
                unfold WM.cfE
                rw [show m.cf.ns.length = m.ns.length by unfold Cm.cf; rw [List.length_map], show m.cf.qs.length = m.qs.length from rfl, ← Hnn.out, ← Hnq.out, show m.cf.ns.flatMap WM.nodE = m.ns.flatMap (fun n => WM.nodE n.ds) by unfold Cm.cf; rw [List.flatMap_map], show m.cf.qs = m.qs from rfl]
                simpa [List.append_assoc] using h9)
              clear HP hff
              go_wp2_with fail
              go_ret
              exact ⟨rfl, HN, HFE⟩
end Go.Proofs.Ytplekkpfpidebaa
