/- How many spots a placing has; the best ones, counted: plain facts. A map that counts what spots come up. -/
import Derived.Test.YtjbjjdcmkbigdaaDoorPackSame
import Derived.Test.YtjbjjdcmkbigdaaDoorPackMap
namespace Go.Proofs.YtjbjjdcmkbigdaaDoor
open Go.RowKit
open PK
def keyOf2 (f : Fe) : Int × Int := (f.n, f.d)
/-- The spots that came up, each once. -/
def addK (ks : List (Int × Int)) (s : Int × Int) : List (Int × Int) := if s ∈ ks then ks else ks ++ [s]
def keysL (ks : List (Int × Int)) (l : List Fe) : List (Int × Int) := (l.map keyOf2).foldl addK ks
theorem keysL_next {ks : List (Int × Int)} {l : List Fe} {k : Nat} {f : Fe} (h : l[k]? = some f) : keysL ks (l.take (k + 1)) = addK (keysL ks (l.take k)) (keyOf2 f) := by
  unfold keysL; rw [take_next h, List.map_append, List.foldl_append]; rfl
theorem addK_len (ks : List (Int × Int)) (s : Int × Int) : ks.length ≤ (addK ks s).length ∧ (addK ks s).length ≤ ks.length + 1 := by
  unfold addK; split <;> simp
theorem addK_mem (ks : List (Int × Int)) (s : Int × Int) : s ∈ addK ks s := by
  unfold addK; split
  · assumption
  · simp
theorem keysL_same (s : Int × Int) : ∀ (l : List Fe) (ks : List (Int × Int)), s ∈ ks → (∀ f ∈ l, keyOf2 f = s) → keysL ks l = ks
  | [], _, _, _ => rfl
  | f :: l, ks, h, hl => by
    have e : addK ks (keyOf2 f) = ks := by rw [hl f (by simp)]; unfold addK; rw [if_pos h]
    show keysL (addK ks (keyOf2 f)) l = ks
    rw [e]
    exact keysL_same s l ks h fun g hg => hl g (List.mem_cons_of_mem _ hg)
theorem keysL_piece (s : Int × Int) (l : List Fe) (ks : List (Int × Int)) (hl : ∀ f ∈ l, keyOf2 f = s) : (keysL ks l).length ≤ ks.length + (if l.length = 0 then 0 else 1) := by
  cases l with
  | nil => exact Nat.le_refl _
  | cons f l =>
    show (keysL (addK ks (keyOf2 f)) l).length ≤ _
    rw [hl f (by simp), keysL_same s l _ (addK_mem ks s) fun g hg => hl g (List.mem_cons_of_mem _ hg)]
    simpa using (addK_len ks s).2
theorem keysL_up : ∀ (l : List Fe) (ks : List (Int × Int)), ks.length ≤ (keysL ks l).length
  | [], _ => Nat.le_refl _
  | f :: l, ks => Nat.le_trans (addK_len ks (keyOf2 f)).1 (keysL_up l (addK ks (keyOf2 f)))
theorem keysL_le : ∀ (l : List Fe) (ks : List (Int × Int)), (keysL ks l).length ≤ ks.length + l.length
  | [], _ => Nat.le_refl _
  | f :: l, ks => by
    have h1 := keysL_le l (addK ks (keyOf2 f))
    have h2 := (addK_len ks (keyOf2 f)).2
    show (keysL (addK ks (keyOf2 f)) l).length ≤ _
    rw [List.length_cons]; omega
theorem slots_ok' {S : Shp} (hw : S.Wf) : ∀ (x : Nat) {f : Fe}, FeOk f → x ≤ fitF S f → ∀ s ∈ pieces S f x, FeOk s
  | 0, f, _, _, s, hs => by rw [pieces] at hs; cases hs
  | x + 1, f, hf, hx, s, hs => by
    have hpos : 0 < fitF S f := by omega
    have h2 := restF_fit hpos
    rw [pieces] at hs
    rcases List.mem_cons.1 hs with rfl | hs
    · exact slotF_ok hw hf
    · exact slots_ok' hw x (restF_ok hf hpos) (by omega) s hs
theorem placeL_ok' {S : Shp} {l : List Fe} (hw : S.Wf) (hf : ∀ f ∈ l, FeOk f) : ∀ (Z : List Nat) (r : Nat), ∀ s ∈ placeL S l Z r, FeOk s
  | [], r, s, hs => by rw [placeL] at hs; cases hs
  | k :: Z, r, s, hs => by
    rw [placeL] at hs
    cases hk : l[k]? with
    | none => rw [hk] at hs; exact placeL_ok' hw hf Z r s hs
    | some f =>
      rw [hk] at hs
      simp only at hs
      rcases List.mem_append.1 hs with hs | hs
      · exact slots_ok' hw _ (hf f (List.mem_of_getElem? hk)) (by omega) s hs
      · exact placeL_ok' hw hf Z _ s hs
theorem keysL_pos {l : List Fe} (h : 0 < l.length) : 1 ≤ (keysL [] l).length := by
  cases l with
  | nil => simp at h
  | cons f l => exact Nat.le_trans (by unfold addK; simp) (keysL_up l (addK [] (keyOf2 f)))
theorem keysL_app (ks : List (Int × Int)) (a b : List Fe) : keysL ks (a ++ b) = keysL (keysL ks a) b := by unfold keysL; rw [List.map_append, List.foldl_append]
/-- How many spots are gone into. -/
def useL : List Nat → Nat → Nat
  | [], _ => 0
  | x :: D, r => (if min x r = 0 then 0 else 1) + useL D (r - min x r)
theorem useL_zero : ∀ D : List Nat, useL D 0 = 0
  | [] => rfl
  | x :: D => by rw [useL, show min x 0 = 0 by omega, if_pos rfl, useL_zero D]
theorem useL_sum : ∀ (D : List Nat) (r j : Nat), 0 < r → j + 1 ≤ useL D r → (D.take j).sum < r
  | [], r, j, hr, h => by simp [useL] at h
  | x :: D, r, 0, hr, h => by simpa using hr
  | x :: D, r, j + 1, hr, h => by
    rw [useL] at h
    rw [List.take_succ_cons, List.sum_cons]
    by_cases hx : min x r = 0
    · rw [if_pos hx, hx] at h
      have := useL_sum D r j hr (by simpa using Nat.le_trans (by omega) h)
      omega
    · rw [if_neg hx] at h
      by_cases hxr : x < r
      · have := useL_sum D (r - min x r) j (by omega) (by omega)
        omega
      · rw [show r - min x r = 0 by omega, useL_zero] at h
        omega
theorem pieces_key (S : Shp) : ∀ (x : Nat) (f : Fe), ∀ s ∈ pieces S f x, keyOf2 s = keyOf2 f
  | 0, f, s, h => by rw [pieces] at h; cases h
  | x + 1, f, s, h => by
    rw [pieces] at h
    rcases List.mem_cons.1 h with rfl | h
    · rfl
    · exact (pieces_key S x (restF S f) s h).trans rfl
theorem place_keys (S : Shp) (l : List Fe) : ∀ (Z : List Nat) (r : Nat) (ks : List (Int × Int)), (keysL ks (placeL S l Z r)).length ≤ ks.length + useL (Z.map (ftL (fitsL S l))) r
  | [], r, ks => by rw [placeL]; exact Nat.le_refl _
  | k :: Z, r, ks => by
    rw [placeL, List.map_cons, useL]
    cases h : l[k]? with
    | none =>
      have e : ftL (fitsL S l) k = 0 := by unfold ftL fitsL; rw [List.getElem?_map, h]; rfl
      simp only
      rw [e]
      have := place_keys S l Z r ks
      simpa using this
    | some f =>
      simp only
      rw [ftL_at h, keysL_app]
      have h1 := place_keys S l Z (r - min (fitF S f) r) (keysL ks (pieces S f (min (fitF S f) r)))
      have h2 := keysL_piece (keyOf2 f) (pieces S f (min (fitF S f) r)) ks (pieces_key S _ f)
      rw [pieces_len] at h2
      omega
/-- Those above n. -/
def gtC (D : List Nat) (n : Nat) : Nat := D.countP (fun x => decide (n < x))
theorem desc_at : ∀ {D : List Nat} {n j : Nat}, D.Pairwise (fun a b => b ≤ a) → gtC D n ≤ j → j < gtC D n + D.count n → D[j]? = some n
  | [], n, j, _, _, h => by simp [gtC] at h
  | x :: D, n, j, hp, h1, h2 => by
    obtain ⟨p1, p2⟩ := List.pairwise_cons.1 hp
    unfold gtC at h1 h2
    rw [List.countP_cons] at h1 h2
    rw [List.count_cons] at h2
    by_cases hx : n < x
    · have hne : (x == n) = false := by simp; omega
      rw [if_pos (by simpa using hx)] at h1 h2
      rw [hne] at h2
      obtain ⟨i, rfl⟩ : ∃ i, j = i + 1 := ⟨j - 1, by omega⟩
      rw [List.getElem?_cons_succ]
      exact desc_at p2 (by unfold gtC; omega) (by unfold gtC; simp at h2; omega)
    · have g0 : D.countP (fun y => decide (n < y)) = 0 := by
        rw [List.countP_eq_zero]
        intro y hy
        have := p1 y hy
        simp; omega
      rw [if_neg (by simpa using hx), g0] at h1 h2
      by_cases he : x = n
      · subst he
        cases j with
        | zero => rfl
        | succ i =>
          rw [List.getElem?_cons_succ]
          exact desc_at p2 (by unfold gtC; omega) (by unfold gtC; simp at h2; omega)
      · have hc : D.count n = 0 := by
          rw [List.count_eq_zero]
          intro hm
          have := p1 n hm
          omega
        rw [hc] at h2
        have hne : (x == n) = false := by simpa using he
        rw [hne] at h2
        simp at h2
theorem gtC_down (D : List Nat) (n : Nat) : gtC D n = gtC D (n + 1) + D.count (n + 1) := by
  induction D with
  | nil => rfl
  | cons x D ih =>
    unfold gtC at *
    rw [List.countP_cons, List.countP_cons, List.count_cons]
    by_cases h : x = n + 1
    · subst h; simp; omega
    · have hne : (x == n + 1) = false := by simpa using h
      rw [hne]
      by_cases h2 : n < x
      · rw [if_pos (by simpa using h2), if_pos (by simp; omega)]; simp; omega
      · rw [if_neg (by simpa using h2), if_neg (by simp; omega)]; simp; omega
/-- The fits, the best first. -/
def descF (S : Shp) (l : List Fe) : List Nat := (orderF (fitsL S l)).map (ftL (fitsL S l))
theorem descF_perm (S : Shp) (l : List Fe) : (descF S l).Perm (fitsL S l) := by
  unfold descF
  have h1 := ((orderF_perm' S l).map (ftL (fitsL S l)))
  have h2 : (List.range l.length).map (ftL (fitsL S l)) = fitsL S l := by
    refine List.ext_getElem? fun i => ?_
    rw [List.getElem?_map]
    rcases Nat.lt_or_ge i l.length with hi | hi
    · rw [List.getElem?_range hi]
      have hf : i < (fitsL S l).length := by rw [fitsL_len]; exact hi
      unfold ftL
      rw [Option.map_some, List.getElem?_eq_getElem hf, Option.getD_some]
    · rw [List.getElem?_eq_none (by simpa using hi), List.getElem?_eq_none (by rw [fitsL_len]; exact hi)]; rfl
  rw [h2] at h1
  exact h1
theorem ftL_le {L : List Nat} (h : ∀ x ∈ L, x ≤ 16) (k : Nat) : ftL L k ≤ 16 := by
  unfold ftL
  cases hk : L[k]? with
  | none => simp
  | some x => simpa using h x (List.mem_of_getElem? hk)
theorem descF_desc (S : Shp) (l : List Fe) : (descF S l).Pairwise (fun a b => b ≤ a) := by
  unfold descF
  rw [List.pairwise_map]
  have h := orderF_asc (fitsL S l)
  have hin : ∀ x ∈ orderF (fitsL S l), x < (fitsL S l).length := fun x hx => by
    have := (orderF_perm (fitsL S l)).mem_iff.1 hx; simpa using this
  refine (List.Pairwise.imp_of_mem ?_ h)
  intro a b ha hb hab
  have h16 := ftL_le (fitsL_le S l)
  have ha2 := hin a ha
  have hb2 := hin b hb
  have h1 := h16 a
  have h2 := h16 b
  unfold keyL at hab
  rcases Nat.lt_or_ge (ftL (fitsL S l) a) (ftL (fitsL S l) b) with hlt | hge
  · exfalso
    have : (16 - ftL (fitsL S l) b + 1) * (fitsL S l).length ≤ (16 - ftL (fitsL S l) a) * (fitsL S l).length := Nat.mul_le_mul_right _ (by omega)
    rw [Nat.add_mul, Nat.one_mul] at this
    omega
  · exact hge
theorem descF_le (S : Shp) (l : List Fe) : ∀ x ∈ descF S l, x ≤ 16 := fun x hx => fitsL_le S l x ((descF_perm S l).mem_iff.1 hx)
theorem gtC_top (S : Shp) (l : List Fe) : gtC (descF S l) 16 = 0 := by
  unfold gtC
  rw [List.countP_eq_zero]
  intro x hx
  have := descF_le S l x hx
  simp; omega
/-- The best ones, one less than there are spots, have no room for all. -/
theorem few_room {S : Shp} {l : List Fe} {p j : Nat} (hp : 0 < p) (hj : j + 1 ≤ (keysL [] (placeF S l p)).length) : ((descF S l).take j).sum < p :=
  useL_sum _ p j hp (Nat.le_trans hj (by have := place_keys S l (orderF (fitsL S l)) p []; rw [List.length_nil, Nat.zero_add] at this; exact this))
/-! A map from spots to numbers, its keys alone. -/
open Go.ChangeMaps (setBlock heap_setBlock_same heap_setBlock_other)
def KeyAt (w : World) (m : Nat) (ks : List (Int × Int)) : Prop :=
  ∃ es clock, w.heap[m]? = some (.map es clock) ∧ es.toList.map (fun e => e.key) = ks.map (fun p => spotP p.1 p.2) ∧ (∀ s ∈ ks, (Lit.int .i64 s.1).wf = true ∧ (Lit.int .i64 s.2).wf = true) ∧
    (∀ e ∈ es.toList, e.born < clock) ∧ (es.toList.map (fun e => e.born)).Nodup ∧ (∀ e ∈ es.toList, ∃ v : Int, e.val = .int .i64 v) ∧ ks.Nodup
theorem KeyAt.lt {w : World} {m : Nat} {ks : List (Int × Int)} (h : KeyAt w m ks) : m < w.heap.size := by
  obtain ⟨es, clock, hb, _⟩ := h
  exact (Array.getElem?_eq_some_iff.1 hb).1
theorem KeyAt.of_block {w w' : World} {m : Nat} {ks : List (Int × Int)} (h : KeyAt w m ks) (e : w'.heap[m]? = w.heap[m]?) : KeyAt w' m ks := by
  obtain ⟨es, clock, hb, h2⟩ := h
  exact ⟨es, clock, e.trans hb, h2⟩
theorem KeyAt.new (w : World) : KeyAt (w.alloc (.map #[] 0)) w.heap.size [] := ⟨#[], 0, (MapKept.heap_alloc w _).1, rfl, by simp, by simp, by simp, by simp, by simp⟩
theorem KeyAt.keys {ks : List (Int × Int)} {es : Array MapEntry} (h : es.toList.map (fun e => e.key) = ks.map (fun p => spotP p.1 p.2)) (hs : ∀ s ∈ ks, (Lit.int .i64 s.1).wf = true ∧ (Lit.int .i64 s.2).wf = true) : ∀ e ∈ es.toList, ∃ l, keyOf Tryd.prog 38 e.key = some l := by
  intro e he
  have hm : e.key ∈ es.toList.map (fun e => e.key) := List.mem_map.2 ⟨e, he, rfl⟩
  rw [h] at hm
  obtain ⟨p, hp, e1⟩ := List.mem_map.1 hm
  obtain ⟨b1, b2⟩ := hs _ hp
  rw [← e1]
  exact spotKeyP b1 b2
theorem nodup_at {α : Type} {l : List α} (hn : l.Nodup) {i j : Nat} {x : α} (h1 : l[i]? = some x) (h2 : l[j]? = some x) : i = j := by
  obtain ⟨l1, x1⟩ := List.getElem?_eq_some_iff.1 h1
  obtain ⟨l2, x2⟩ := List.getElem?_eq_some_iff.1 h2
  have hp := List.pairwise_iff_getElem.1 hn
  rcases Nat.lt_trichotomy i j with h | h | h
  · exact absurd (x1.trans x2.symm) (hp i j l1 l2 h)
  · exact h
  · exact absurd (x2.trans x1.symm) (hp j i l2 l1 h)
theorem born_at {es : Array MapEntry} (hn : (es.toList.map (fun e => e.born)).Nodup) {j : Nat} {e0 : MapEntry} (h : es.toList[j]? = some e0) : es.findIdx? (fun e => ((e.born : Nat) : Int) == ((e0.born : Nat) : Int)) = some j := by
  rw [show es.findIdx? (fun e => ((e.born : Nat) : Int) == ((e0.born : Nat) : Int)) = es.toList.findIdx? (fun e => ((e.born : Nat) : Int) == ((e0.born : Nat) : Int)) by cases es; simp]
  obtain ⟨hj, he⟩ := List.getElem?_eq_some_iff.1 h
  rw [List.findIdx?_eq_some_iff_getElem]
  refine ⟨hj, by rw [he]; simp, fun i hi hx => ?_⟩
  have hx2 : es.toList[i].born = e0.born := by have h9 := beq_iff_eq.1 hx; exact Int.ofNat.inj h9
  have := nodup_at hn (i := i) (j := j) (x := e0.born) (by rw [List.getElem?_map, List.getElem?_eq_getElem (by omega), Option.map_some, hx2]) (by rw [List.getElem?_map, h]; rfl)
  omega
/-- 'm[s]++', step by step: what is read is the same before the entry is there and behind it; what is stored changes no key. -/
theorem KeyAt.bump {w : World} {m : Nat} {ks : List (Int × Int)} {s : Int × Int} (h : KeyAt w m ks) (h1 : (Lit.int .i64 s.1).wf = true) (h2 : (Lit.int .i64 s.2).wf = true) :
    ∃ (v0 s0 : Int) (es1 : Array MapEntry) (clock1 : Nat),
      (Instr.lookup 49 (.map (some m)) (.agg #[.int .i64 s.1, .int .i64 s.2]) false).run Tryd.prog w = .ok (.int .i64 v0) w ∧
      (Instr.mapEntry 49 (.map (some m)) (.agg #[.int .i64 s.1, .int .i64 s.2])).run Tryd.prog w = .ok (.tuple #[.int .i64 v0, .int .i64 s0]) (setBlock w m (.map es1 clock1)) ∧
      ∀ w2 : World, w2.heap[m]? = some (.map es1 clock1) →
        (Instr.lookup 49 (.map (some m)) (.agg #[.int .i64 s.1, .int .i64 s.2]) false).run Tryd.prog w2 = .ok (.int .i64 v0) w2 ∧
        ∀ x : Int, ∃ es' clock', (Instr.entryStore 49 (.map (some m)) (.int .i64 s0) (.int .i64 x)).run Tryd.prog w2 = .ok () (setBlock w2 m (.map es' clock')) ∧ KeyAt (setBlock w2 m (.map es' clock')) m (addK ks s) := by
  obtain ⟨es, clock, hb, hes, hs, hbo, hnd, hv, hkn⟩ := h
  obtain ⟨l, hl⟩ := spotKeyP (a := s.1) (b := s.2) h1 h2
  have hkeys := KeyAt.keys hes hs
  have heq : (Value.agg #[.int .i64 s.1, .int .i64 s.2]) = spotP s.1 s.2 := rfl
  rw [heq]
  rcases spotLawP.find w hl es.toList hkeys with ⟨f1, f2⟩ | ⟨j, e0, f1, f2, f3⟩
  · have hnm : s ∉ ks := fun hm => by
      have : spotP s.1 s.2 ∈ es.toList.map (fun e => e.key) := by rw [hes]; exact List.mem_map.2 ⟨s, hm, rfl⟩
      obtain ⟨e, he, hek⟩ := List.mem_map.1 this
      exact f2 e he hek
    have hadd : addK ks s = ks ++ [s] := by unfold addK; rw [if_neg hnm]
    have hk1 : ∀ e ∈ (es.push ⟨spotP s.1 s.2, .int .i64 0, clock⟩).toList, ∃ l, keyOf Tryd.prog 38 e.key = some l := fun e he => by
      rw [Array.toList_push] at he
      rcases List.mem_append.1 he with he | he
      · exact hkeys e he
      · simp at he; subst he; exact ⟨l, hl⟩
    have hbn : ∀ v : Value, ((es.push ⟨spotP s.1 s.2, v, clock⟩).toList.map (fun e => e.born)).Nodup := fun v => by
      rw [Array.toList_push, List.map_append]
      refine List.nodup_append.2 ⟨hnd, by simp, fun a ha c hc e1 => ?_⟩
      simp at hc
      obtain ⟨x, hx, rfl⟩ := List.mem_map.1 ha
      have := hbo x hx
      omega
    refine ⟨0, (clock : Nat), es.push ⟨spotP s.1 s.2, .int .i64 0, clock⟩, clock + 1, ?_, ?_, fun w2 hw2 => ⟨?_, fun x => ⟨es.push ⟨spotP s.1 s.2, .int .i64 x, clock⟩, clock + 1, ?_, ?_⟩⟩⟩
    · simp [Instr.lookup, run_underlying Tryd.underlying49, MapKept.run_getObj_map hb, spotLawP.check w _ hl, f1, Result.andThen]
    · simp [Instr.mapEntry, run_underlying Tryd.underlying49, MapKept.run_getObj_map hb, spotLawP.check w false hl, f1, MapKept.run_setObj_map _ hb, Result.andThen, setBlock, goInt]
    · rcases spotLawP.find w2 hl _ hk1 with ⟨g1, g2⟩ | ⟨j, e0, g1, g2, g3⟩
      · exact absurd rfl (g2 ⟨spotP s.1 s.2, .int .i64 0, clock⟩ (by simp))
      · have hm := List.mem_of_getElem? g2
        rw [Array.toList_push] at hm
        have hv0 : e0.val = .int .i64 0 := by
          rcases List.mem_append.1 hm with hm | hm
          · exact absurd g3 (f2 e0 hm)
          · simp at hm; rw [hm]
        rw [hv0] at g1
        simp [Instr.lookup, run_underlying Tryd.underlying49, MapKept.run_getObj_map hw2, spotLawP.check w2 _ hl, -Array.toList_push, g1, Result.andThen]
    · have hidx := born_at (hbn (.int .i64 0)) (j := es.size) (e0 := ⟨spotP s.1 s.2, .int .i64 0, clock⟩) (by rw [Array.toList_push, List.getElem?_append_right (by simp)]; simp)
      have hmod : (es.push ⟨spotP s.1 s.2, .int .i64 0, clock⟩).modify es.size (fun e => { e with val := .int .i64 x }) = es.push ⟨spotP s.1 s.2, .int .i64 x, clock⟩ := by
        apply Array.ext'
        rw [Array.toList_modify, Array.toList_push, Array.toList_push, ← Array.length_toList]
        have modify_last : ∀ (l : List MapEntry) (a : MapEntry), (l ++ [a]).modify l.length (fun e => { e with val := .int .i64 x }) = l ++ [{ a with val := .int .i64 x }] := fun l a => by
          induction l with
          | nil => rfl
          | cons b r ih => simp [List.modify_succ_cons, ih]
        rw [modify_last]
      simp only at hidx
      simp [Instr.entryStore, MapKept.run_getObj_map hw2, asInt, asIntOf, hidx, hmod, MapKept.run_setObj_map _ hw2, Result.andThen, setBlock]
    · refine ⟨_, _, heap_setBlock_same hw2 _, ?_, ?_, ?_, hbn _, ?_, ?_⟩
      · rw [Array.toList_push, List.map_append, hes, hadd, List.map_append]; rfl
      · rw [hadd]; intro t ht
        rcases List.mem_append.1 ht with ht | ht
        · exact hs t ht
        · simp at ht; subst ht; exact ⟨h1, h2⟩
      · intro e he
        rw [Array.toList_push] at he
        rcases List.mem_append.1 he with he | he
        · have := hbo e he; omega
        · simp at he; subst he; exact Nat.lt_succ_self _
      · intro e he
        rw [Array.toList_push] at he
        rcases List.mem_append.1 he with he | he
        · exact hv e he
        · simp at he; subst he; exact ⟨_, rfl⟩
      · rw [hadd]; exact List.nodup_append.2 ⟨hkn, by simp, fun a ha c hc e1 => by simp at hc; subst hc; exact hnm (e1 ▸ ha)⟩
  · obtain ⟨v, hv0⟩ := hv e0 (List.mem_of_getElem? f2)
    have hmem : s ∈ ks := by
      have : spotP s.1 s.2 ∈ es.toList.map (fun e => e.key) := List.mem_map.2 ⟨e0, List.mem_of_getElem? f2, f3⟩
      rw [hes] at this
      obtain ⟨t, ht, hte⟩ := List.mem_map.1 this
      obtain ⟨g1, g2⟩ := spotP_inj hte
      have : t = s := Prod.ext g1 g2
      exact this ▸ ht
    have hadd : addK ks s = ks := by unfold addK; rw [if_pos hmem]
    have hkeyn : (es.toList.map (fun e => e.key)).Nodup := by
      rw [hes]
      exact (List.pairwise_map.2 (hkn.imp fun {a b} hab he => hab (by obtain ⟨g1, g2⟩ := spotP_inj he; exact Prod.ext g1 g2)))
    have hj : es[j]? = some e0 := by simpa using f2
    have hset : ∀ (l : List MapEntry) (f : MapEntry → MapEntry) (k : Nat) (e : MapEntry), l[k]? = some e → l.modify k f = l.set k (f e) := fun l f k e he => by
      refine List.ext_getElem? fun i => ?_
      rw [List.getElem?_modify, List.getElem?_set]
      by_cases hik : k = i
      · subst hik
        obtain ⟨h8, h9⟩ := List.getElem?_eq_some_iff.1 he
        simp [h8, h9]
      · simp [hik]
    have hsame : es.modify j (fun e => { e with key := spotP s.1 s.2 }) = es := by
      apply Array.ext'
      rw [Array.toList_modify, hset _ _ _ _ f2]
      have e1 : ({ e0 with key := spotP s.1 s.2 } : MapEntry) = e0 := by rw [← f3]
      rw [e1]
      obtain ⟨hk, he⟩ := List.getElem?_eq_some_iff.1 f2
      rw [← he]; exact List.set_getElem_self hk
    refine ⟨v, (e0.born : Nat), es, clock, ?_, ?_, fun w2 hw2 => ⟨?_, fun x => ⟨es.modify j (fun e => { e with val := .int .i64 x }), clock, ?_, ?_⟩⟩⟩
    · rw [hv0] at f1
      simp [Instr.lookup, run_underlying Tryd.underlying49, MapKept.run_getObj_map hb, spotLawP.check w _ hl, f1, Result.andThen]
    · simp [Instr.mapEntry, run_underlying Tryd.underlying49, MapKept.run_getObj_map hb, spotLawP.check w false hl, f1, hj, f3, spotLawP.stays w hl, hsame, MapKept.run_setObj_map _ hb, Result.andThen, setBlock, goInt, hv0]
    · rcases spotLawP.find w2 hl es.toList hkeys with ⟨g1, g2⟩ | ⟨j2, e2, g1, g2, g3⟩
      · exact absurd f3 (g2 e0 (List.mem_of_getElem? f2))
      · have hjj := nodup_at hkeyn (i := j) (j := j2) (x := spotP s.1 s.2) (by rw [List.getElem?_map, f2, ← f3]; rfl) (by rw [List.getElem?_map, g2, ← g3]; rfl)
        subst hjj
        rw [f2] at g2
        obtain rfl := Option.some.inj g2
        rw [hv0] at g1
        simp [Instr.lookup, run_underlying Tryd.underlying49, MapKept.run_getObj_map hw2, spotLawP.check w2 _ hl, g1, Result.andThen]
    · have hidx := born_at hnd f2
      simp [Instr.entryStore, MapKept.run_getObj_map hw2, asInt, asIntOf, hidx, MapKept.run_setObj_map _ hw2, Result.andThen, setBlock]
    · have hl2 : (es.modify j (fun e => { e with val := .int .i64 x })).toList = es.toList.set j { e0 with val := .int .i64 x } := by
        rw [Array.toList_modify, hset _ _ _ _ f2]
      have hmap : ∀ {β : Type} (g : MapEntry → β), g { e0 with val := .int .i64 x } = g e0 → (es.toList.set j { e0 with val := .int .i64 x }).map g = es.toList.map g := fun g hg => by
        refine List.ext_getElem? fun i => ?_
        rw [List.getElem?_map, List.getElem?_map, List.getElem?_set]
        by_cases hik : j = i
        · subst hik
          have := (List.getElem?_eq_some_iff.1 f2).1
          rw [if_pos rfl, if_pos this, f2, Option.map_some, Option.map_some, hg]
        · rw [if_neg hik]
      refine ⟨_, _, heap_setBlock_same hw2 _, ?_, ?_, ?_, ?_, ?_, ?_⟩
      · rw [hl2, hmap (fun e => e.key) rfl, hes, hadd]
      · rw [hadd]; exact hs
      · rw [hl2]; intro e he
        rcases List.mem_or_eq_of_mem_set he with he | rfl
        · exact hbo e he
        · exact hbo e0 (List.mem_of_getElem? f2)
      · rw [hl2, hmap (fun e => e.born) rfl]; exact hnd
      · rw [hl2]; intro e he
        rcases List.mem_or_eq_of_mem_set he with he | rfl
        · exact hv e he
        · exact ⟨_, rfl⟩
      · rw [hadd]; exact hkn
end Go.Proofs.YtjbjjdcmkbigdaaDoor
