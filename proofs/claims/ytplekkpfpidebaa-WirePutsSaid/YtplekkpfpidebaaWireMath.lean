/- Bytes of acts and configurations, as lists: what is put, what is told of bytes, there and back. No program is spoken of. -/
import Derived.Laws.Concat
set_option linter.unusedVariables false
set_option maxRecDepth 20000
namespace Go.Proofs.Ytplekkpfpidebaa
namespace WM
abbrev By := List UInt8
/-- The number of bytes, the highest first. -/
def num (l : By) : Nat := l.foldl (fun n b => n * 256 + b.toNat) 0
theorem num_from (l : By) (n : Nat) : l.foldl (fun n b => n * 256 + b.toNat) n = n * 256 ^ l.length + num l := by
  induction l generalizing n with
  | nil => simp [num]
  | cons b l ih =>
    simp only [List.foldl_cons, num, List.length_cons, Nat.zero_mul, Nat.zero_add]
    rw [ih, ih b.toNat, Nat.pow_succ, Nat.add_mul, Nat.add_assoc, Nat.mul_assoc, Nat.mul_comm 256]
theorem num_nil : num [] = 0 := rfl
theorem num_app (a b : By) : num (a ++ b) = num a * 256 ^ b.length + num b := by
  unfold num; rw [List.foldl_append]; exact num_from _ _
theorem num_cons (b : UInt8) (l : By) : num (b :: l) = b.toNat * 256 ^ l.length + num l := by
  have := num_from l b.toNat
  unfold num; rw [List.foldl_cons, Nat.zero_mul, Nat.zero_add]; exact this
theorem num_snoc (l : By) (b : UInt8) : num (l ++ [b]) = num l * 256 + b.toNat := by
  rw [num_app]; simp [num]
theorem num_lt (l : By) : num l < 256 ^ l.length := by
  induction l with
  | nil => decide
  | cons b l ih =>
    rw [num_cons, List.length_cons, Nat.pow_succ, Nat.mul_comm (256 ^ l.length) 256]
    have h : b.toNat ≤ 255 := by have := b.toNat_lt; omega
    have h2 : b.toNat * 256 ^ l.length ≤ 255 * 256 ^ l.length := Nat.mul_le_mul_right _ h
    omega
/-- A number's bytes, so many. -/
def enc (n : Nat) : Nat → By
  | 0 => []
  | c + 1 => enc (n / 256) c ++ [UInt8.ofNat (n % 256)]
theorem enc_len (c : Nat) : ∀ n, (enc n c).length = c := by
  induction c with
  | zero => intro n; rfl
  | succ c ih => intro n; simp [enc, ih]
theorem byte_toNat (n : Nat) : (UInt8.ofNat (n % 256)).toNat = n % 256 := by
  simp [UInt8.toNat_ofNat']
theorem num_enc (c : Nat) : ∀ n, n < 256 ^ c → num (enc n c) = n := by
  induction c with
  | zero => intro n h; simp at h; subst h; rfl
  | succ c ih =>
    intro n h
    rw [enc, num_snoc, byte_toNat, ih (n / 256) (by rw [Nat.pow_succ] at h; omega)]
    omega
theorem enc_snoc (n : Nat) (b : UInt8) (c : Nat) : enc (n * 256 + b.toNat) (c + 1) = enc n c ++ [b] := by
  have hb := b.toNat_lt
  rw [enc, show (n * 256 + b.toNat) / 256 = n by omega, show (n * 256 + b.toNat) % 256 = b.toNat by omega]
  simp
theorem enc_num (l : By) : enc (num l) l.length = l := by
  generalize hk : l.length = k
  induction k generalizing l with
  | zero => rw [List.length_eq_zero_iff] at hk; subst hk; rfl
  | succ k ih =>
    obtain ⟨m, b, rfl⟩ : ∃ m b, l = m ++ [b] := by
      refine ⟨l.dropLast, l.getLast (by intro e; rw [e] at hk; cases hk), ?_⟩
      exact (List.dropLast_concat_getLast (l := l) (by intro e; rw [e] at hk; cases hk)).symm
    have hm : m.length = k := by simpa using hk
    rw [num_snoc, enc_snoc, ih m hm]
/-- Numbers' bytes, one behind the other. -/
def encs : List (Nat × Nat) → By
  | [] => []
  | (n, c) :: l => enc n c ++ encs l
/-- Bytes cut into numbers. -/
def cuts : List Nat → By → List Nat
  | [], _ => []
  | c :: cs, b => num (b.take c) :: cuts cs (b.drop c)
theorem encs_len : ∀ l : List (Nat × Nat), (encs l).length = (l.map (·.2)).sum
  | [] => rfl
  | (n, c) :: l => by simp [encs, enc_len, encs_len l]
theorem cuts_encs : ∀ (l : List (Nat × Nat)) (r : By), (∀ x ∈ l, x.1 < 256 ^ x.2) → cuts (l.map (·.2)) (encs l ++ r) = l.map (·.1)
  | [], _, _ => rfl
  | (n, c) :: l, r, h => by
    have h1 := h (n, c) (by simp)
    simp only [List.map_cons, cuts, encs, List.append_assoc]
    rw [List.take_append_of_le_length (by rw [enc_len]; exact Nat.le_refl _), List.take_of_length_le (by rw [enc_len]; exact Nat.le_refl _), num_enc _ _ h1]
    rw [show (enc n c ++ (encs l ++ r)).drop c = encs l ++ r from by
      have := List.drop_left (l₁ := enc n c) (l₂ := encs l ++ r); rw [enc_len] at this; exact this]
    rw [cuts_encs l r (fun x hx => h x (by simp [hx]))]
theorem encs_cuts : ∀ (cs : List Nat) (b : By), b.length = cs.sum → encs ((cuts cs b).zip cs) = b
  | [], b, h => by simp at h; subst h; rfl
  | c :: cs, b, h => by
    simp only [List.sum_cons] at h
    simp only [cuts, List.zip_cons_cons, encs]
    have h1 : (b.take c).length = c := by simp; omega
    have h2 := enc_num (b.take c)
    rw [h1] at h2
    rw [h2, encs_cuts cs (b.drop c) (by simp; omega), List.take_append_drop]
theorem cuts_len : ∀ (cs : List Nat) (b : By), (cuts cs b).length = cs.length
  | [], _ => rfl
  | c :: cs, b => by simp [cuts, cuts_len cs]
theorem cuts_lt : ∀ (cs : List Nat) (b : By), ∀ x ∈ (cuts cs b).zip cs, x.1 < 256 ^ x.2
  | [], _ => by simp [cuts]
  | c :: cs, b => by
    intro x hx
    simp only [cuts, List.zip_cons_cons, List.mem_cons] at hx
    rcases hx with rfl | hx
    · exact Nat.lt_of_lt_of_le (num_lt _) (Nat.pow_le_pow_right (by decide) (by simp; omega))
    · exact cuts_lt cs _ x hx
/-- An act. -/
structure Ac where
  k : Int
  n : Int
  id : Int
  q : Int
  p : Int
  r : Int
  g : Int
  c : Int
  mn : Int
  mx : Int
  deriving DecidableEq
def Ac.zero : Ac := ⟨0, 0, 0, 0, 0, 0, 0, 0, 0, 0⟩
/-- How many bytes stand behind a Kind. -/
def size (k : Int) : Option Nat :=
  if k = 0 then some 11 else if k = 1 ∨ k = 2 ∨ k = 7 then some 2 else if k = 3 ∨ k = 4 ∨ k = 6 then some 1 else if k = 5 then some 0 else none
def wid (k : Int) : List Nat := if k = 0 then [2, 1, 1, 2, 1, 2, 1, 1] else if k = 1 ∨ k = 2 ∨ k = 7 then [2] else if k = 3 ∨ k = 4 ∨ k = 6 then [1] else []
def flds (a : Ac) : List Int := if a.k = 0 then [a.id, a.q, a.p, a.r, a.g, a.c, a.mn, a.mx] else if a.k = 5 then [] else [a.n]
def jobz (a : Ac) : Bool := decide (a.id = 0) && decide (a.q = 0) && decide (a.p = 0) && decide (a.r = 0) && decide (a.g = 0) && decide (a.c = 0) && decide (a.mn = 0) && decide (a.mx = 0)
/-- Has an act a form? -/
def formOk (a : Ac) : Bool := (size a.k).isSome && !(decide (a.k = 0) && !decide (a.n = 0)) && !(!decide (a.k = 0) && !jobz a) && !(decide (a.k = 5) && !decide (a.n = 0))
def fit (n : Int) (c : Nat) : Bool := decide (0 ≤ n) && decide (n < 256 ^ c)
def fitAll (a : Ac) : Bool := ((flds a).zip (wid a.k)).all fun x => fit x.1 x.2
def putA (a : Ac) : By × Int :=
  if formOk a then (if fitAll a then (UInt8.ofNat a.k.toNat :: encs (((flds a).map Int.toNat).zip (wid a.k)), 0) else ([], 1)) else ([], 10)
/-- The act of a Kind's numbers. -/
def mk (k : Int) (l : List Nat) : Ac :=
  if k = 0 then ⟨0, 0, l.getD 0 0, l.getD 1 0, l.getD 2 0, l.getD 3 0, l.getD 4 0, l.getD 5 0, l.getD 6 0, l.getD 7 0⟩
  else ⟨k, l.getD 0 0, 0, 0, 0, 0, 0, 0, 0, 0⟩
def dec (k : Int) (b : By) : Ac := mk k (cuts (wid k) b)
theorem size_wid {k : Int} {n : Nat} (h : size k = some n) : (wid k).sum = n ∧ 0 ≤ k ∧ k ≤ 7 ∧ n ≤ 11 := by
  unfold size at h; unfold wid
  by_cases h0 : k = 0
  · subst h0; simp at h ⊢; omega
  · by_cases h1 : k = 1 ∨ k = 2 ∨ k = 7
    · simp only [h0, h1, if_true, if_false] at h ⊢; cases h; exact ⟨rfl, by omega, by omega, by omega⟩
    · by_cases h2 : k = 3 ∨ k = 4 ∨ k = 6
      · simp only [h0, h1, h2, if_true, if_false] at h ⊢; cases h; exact ⟨rfl, by omega, by omega, by omega⟩
      · by_cases h5 : k = 5
        · simp only [h0, h1, h2, if_false] at h ⊢; rw [if_pos h5] at h; cases h; exact ⟨rfl, by omega, by omega, by omega⟩
        · simp [h0, h1, h2, h5] at h
theorem size_cases {k : Int} (h : (size k).isSome = true) : k = 0 ∨ k = 1 ∨ k = 2 ∨ k = 3 ∨ k = 4 ∨ k = 5 ∨ k = 6 ∨ k = 7 := by
  rcases h2 : size k with _ | n
  · rw [h2] at h; cases h
  · have := size_wid h2; omega
theorem jobz_iff {a : Ac} : jobz a = true ↔ a.id = 0 ∧ a.q = 0 ∧ a.p = 0 ∧ a.r = 0 ∧ a.g = 0 ∧ a.c = 0 ∧ a.mn = 0 ∧ a.mx = 0 := by
  unfold jobz; simp only [Bool.and_eq_true, decide_eq_true_eq]; constructor <;> (rintro h; simp_all)
theorem fit_iff {n : Int} {c : Nat} : fit n c = true ↔ 0 ≤ n ∧ n < 256 ^ c := by
  unfold fit; simp
/-- What is put is told as it was. -/
theorem dec_put {a : Ac} {s : By} (h : putA a = (s, 0)) (r : By) :
    ∃ n b, size a.k = some n ∧ s = UInt8.ofNat a.k.toNat :: b ∧ b.length = n ∧ dec a.k (b ++ r) = a := by
  unfold putA at h
  by_cases hf : formOk a = true
  · rw [if_pos hf] at h
    by_cases hg : fitAll a = true
    · rw [if_pos hg] at h
      simp only [Prod.mk.injEq, and_true] at h
      unfold formOk at hf
      simp only [Bool.and_eq_true] at hf
      obtain ⟨⟨⟨hs, hn0⟩, hj⟩, hn5⟩ := hf
      obtain ⟨n, hn⟩ := Option.isSome_iff_exists.1 hs
      have hz : (flds a).length = (wid a.k).length := by
        rcases size_cases hs with h0 | h0 | h0 | h0 | h0 | h0 | h0 | h0 <;> simp [flds, wid, h0]
      have hlt : ∀ x ∈ ((flds a).map Int.toNat).zip (wid a.k), x.1 < 256 ^ x.2 := by
        intro x hx
        rw [List.zip_map_left] at hx
        obtain ⟨y, hy, rfl⟩ := List.mem_map.1 hx
        have := fit_iff.1 (List.all_eq_true.1 hg y hy)
        have h2 : ((256 ^ y.2 : Nat) : Int) = 256 ^ y.2 := by push_cast; rfl
        simp only [Prod.map_fst, Prod.map_snd, id_eq]
        omega
      have hw : (((flds a).map Int.toNat).zip (wid a.k)).map (·.2) = wid a.k := by
        rw [← List.unzip_snd, List.unzip_zip (by simpa using hz)]
      have hv : (((flds a).map Int.toNat).zip (wid a.k)).map (·.1) = (flds a).map Int.toNat := by
        rw [← List.unzip_fst, List.unzip_zip (by simpa using hz)]
      refine ⟨n, _, hn, h.symm, by rw [encs_len, hw]; exact (size_wid hn).1, ?_⟩
      have hc := cuts_encs (((flds a).map Int.toNat).zip (wid a.k)) r hlt
      rw [hw, hv] at hc
      unfold dec
      rw [hc]
      have hpos : ∀ x ∈ flds a, 0 ≤ x := by
        intro x hx
        obtain ⟨i, hi⟩ := List.mem_iff_getElem?.1 hx
        have hi2 : i < (wid a.k).length := by
          have := (List.getElem?_eq_some_iff.1 hi).1; omega
        have hm : (x, (wid a.k)[i]) ∈ (flds a).zip (wid a.k) := by
          refine List.mem_iff_getElem?.2 ⟨i, ?_⟩
          rw [List.getElem?_zip_eq_some]
          exact ⟨hi, List.getElem?_eq_getElem hi2⟩
        exact (fit_iff.1 (List.all_eq_true.1 hg _ hm)).1
      obtain ⟨k, nn, id, q, p, rr, g, c, mn, mx⟩ := a
      simp only at *
      by_cases h0 : k = 0
      · subst h0
        simp [flds] at hpos
        simp at hn0
        simp [mk, flds, hn0]
        omega
      · have hjz : jobz ⟨k, nn, id, q, p, rr, g, c, mn, mx⟩ = true := by simpa [h0] using hj
        obtain ⟨e1, e2, e3, e4, e5, e6, e7, e8⟩ := jobz_iff.1 hjz
        simp only at e1 e2 e3 e4 e5 e6 e7 e8
        subst e1 e2 e3 e4 e5 e6 e7 e8
        by_cases h5 : k = 5
        · subst h5
          simp at hn5
          simp [mk, flds, hn5]
        · simp [flds, h0, h5] at hpos
          simp [mk, flds, h0, h5]
          omega
    · rw [if_neg hg] at h; simp at h
  · rw [if_neg hf] at h; simp at h
/-- An entry's bytes, told and put again, are these. -/
theorem put_dec {k : Int} {n : Nat} {b : By} (hn : size k = some n) (hb : b.length = n) : putA (dec k b) = (UInt8.ofNat k.toNat :: b, 0) := by
  have hs : (size k).isSome = true := by rw [hn]; rfl
  have hsum := (size_wid hn).1
  have hk : (dec k b).k = k := by unfold dec mk; split <;> simp_all
  have hlen := cuts_len (wid k) b
  have hlt := cuts_lt (wid k) b
  have hfl : flds (dec k b) = (cuts (wid k) b).map Int.ofNat := by
    generalize hg : cuts (wid k) b = l at *
    unfold flds; rw [hk]; unfold dec mk; rw [hg]
    rcases size_cases hs with h0 | h0 | h0 | h0 | h0 | h0 | h0 | h0 <;> subst h0 <;> simp [wid] at hlen ⊢
    case inl =>
      match l, hlen with
      | [a0, a1, a2, a3, a4, a5, a6, a7], _ => simp
    all_goals
      match l, hlen with
      | [], _ => first | rfl | contradiction
      | [a0], h9 => first | (simp; done) | (exact absurd h9 (by simp))
  have hform : formOk (dec k b) = true := by
    unfold formOk; rw [hk, hs]
    generalize hg : cuts (wid k) b = l at *
    unfold jobz dec mk; rw [hg]
    rcases size_cases hs with h0 | h0 | h0 | h0 | h0 | h0 | h0 | h0 <;> subst h0 <;> simp
    simp [wid] at hlen; subst hlen; rfl
  have hfit : fitAll (dec k b) = true := by
    unfold fitAll; rw [hfl, hk]
    refine List.all_eq_true.2 fun x hx => ?_
    rw [List.zip_map_left] at hx
    obtain ⟨y, hy, rfl⟩ := List.mem_map.1 hx
    have := hlt y hy
    have h2 : ((256 ^ y.2 : Nat) : Int) = 256 ^ y.2 := by push_cast; rfl
    exact fit_iff.2 ⟨by simp, by simp; omega⟩
  unfold putA
  rw [if_pos hform, if_pos hfit, hfl, hk, List.map_map, show (Int.toNat ∘ Int.ofNat) = id from by funext x; simp, List.map_id, encs_cuts _ _ (by rw [hb, hsum])]
theorem put_len {a : Ac} {s : By} (h : putA a = (s, 0)) : 1 ≤ s.length ∧ s.length ≤ 12 := by
  obtain ⟨n, b, hn, rfl, hb, _⟩ := dec_put h []
  have := (size_wid hn).2.2.2
  simp; omega
/-- What stands at a place. -/
structure We where
  a : Ac
  e : Int
  t : Int
  deriving DecidableEq
/-- The entries of bytes, the first at a place. -/
def ents : Nat → Nat → By → List We
  | 0, _, _ => []
  | _ + 1, _, [] => []
  | f + 1, t, k :: r =>
    match size k.toNat with
    | none => ⟨Ac.zero, 10, t⟩ :: ents f (t + 1) r
    | some n => if r.length < n then [⟨Ac.zero, 11, t⟩] else ⟨dec k.toNat (r.take n), 0, t⟩ :: ents f (t + 1 + n) (r.drop n)
/-- More fuel than bytes changes nothing. -/
theorem ents_fuel : ∀ (f g t : Nat) (l : By), l.length ≤ f → l.length ≤ g → ents f t l = ents g t l := by
  intro f
  induction f with
  | zero =>
    intro g t l hf hg
    have : l = [] := List.length_eq_zero_iff.1 (Nat.le_zero.1 hf)
    subst this; cases g <;> rfl
  | succ f ih =>
    intro g t l hf hg
    cases l with
    | nil => cases g <;> rfl
    | cons k r =>
      cases g with
      | zero => simp at hg
      | succ g =>
        simp only [List.length_cons] at hf hg
        unfold ents
        cases size k.toNat with
        | none => simp only; rw [ih g (t + 1) r (by omega) (by omega)]
        | some n =>
          simp only
          split
          · rfl
          · rw [ih g (t + 1 + n) (r.drop n) (by simp; omega) (by simp; omega)]
def entL (t : Nat) (l : By) : List We := ents l.length t l
theorem entL_nil (t : Nat) : entL t [] = [] := rfl
theorem entL_bad {t : Nat} {k : UInt8} {r : By} (h : size k.toNat = none) : entL t (k :: r) = ⟨Ac.zero, 10, t⟩ :: entL (t + 1) r := by
  unfold entL; rw [List.length_cons]; conv => lhs; unfold ents
  rw [h]
theorem entL_short {t n : Nat} {k : UInt8} {r : By} (h : size k.toNat = some n) (hr : r.length < n) : entL t (k :: r) = [⟨Ac.zero, 11, t⟩] := by
  unfold entL; rw [List.length_cons]; unfold ents
  rw [h]; simp [hr]
theorem entL_ok {t n : Nat} {k : UInt8} {r : By} (h : size k.toNat = some n) (hr : n ≤ r.length) :
    entL t (k :: r) = ⟨dec k.toNat (r.take n), 0, t⟩ :: entL (t + 1 + n) (r.drop n) := by
  unfold entL; rw [List.length_cons]; conv => lhs; unfold ents
  rw [h]; simp only [if_neg (Nat.not_lt.2 hr)]
  rw [ents_fuel r.length (r.drop n).length _ _ (by simp) (Nat.le_refl _)]
theorem entL_len : ∀ (f t : Nat) (l : By), (ents f t l).length ≤ l.length := by
  intro f
  induction f with
  | zero => intro t l; simp [ents]
  | succ f ih =>
    intro t l
    cases l with
    | nil => simp [ents]
    | cons k r =>
      unfold ents
      cases size k.toNat with
      | none => simp only [List.length_cons]; have := ih (t + 1) r; omega
      | some n =>
        simp only
        split
        · simp
        · simp only [List.length_cons]; have := ih (t + 1 + n) (r.drop n); simp only [List.length_drop] at this; omega
/-- What is put, ahead of whatever, is told as it was. -/
theorem entL_put {a : Ac} {s : By} (h : putA a = (s, 0)) (t : Nat) (r : By) : entL t (s ++ r) = ⟨a, 0, t⟩ :: entL (t + s.length) r := by
  obtain ⟨n, b, hn, rfl, hb, hd⟩ := dec_put h []
  have h8 := size_wid hn
  have hk : ((UInt8.ofNat a.k.toNat).toNat : Int) = a.k := by
    have : (UInt8.ofNat a.k.toNat).toNat = a.k.toNat := by
      simp [UInt8.toNat_ofNat']; omega
    rw [this]; omega
  rw [List.cons_append, entL_ok (n := n) (by rw [hk]; exact hn) (by simp; omega), hk]
  have e1 : (b ++ r).take n = b := by rw [← hb]; exact List.take_left
  have e2 : (b ++ r).drop n = r := by rw [← hb]; exact List.drop_left
  rw [e1, e2]
  simp only [List.append_nil] at hd
  rw [hd, List.length_cons, hb, Nat.add_assoc, Nat.add_comm 1 n]
/-- Acts' bytes, one behind the other: all of them are told, each at its place. -/
def back : Nat → List By → List Ac → List We
  | t, s :: ss, a :: as => ⟨a, 0, t⟩ :: back (t + s.length) ss as
  | _, _, _ => []
theorem entL_back : ∀ (l : List (Ac × By)) (t : Nat), (∀ x ∈ l, putA x.1 = (x.2, 0)) → entL t (l.flatMap (·.2)) = back t (l.map (·.2)) (l.map (·.1))
  | [], _, _ => rfl
  | (a, s) :: l, t, h => by
    have h1 := h (a, s) (by simp)
    simp only [List.flatMap_cons, List.map_cons, back]
    rw [entL_put h1, entL_back l _ (fun x hx => h x (by simp [hx]))]
/-- Two pieces: those of the first, if it isn't cut through, then those of the second. -/
theorem entL_join : ∀ (f : Nat) (s u : By) (t : Nat), s.length ≤ f → (∀ x ∈ entL t s, x.e ≠ 11) → entL t (s ++ u) = entL t s ++ entL (t + s.length) u := by
  intro f
  induction f with
  | zero =>
    intro s u t hf _
    have : s = [] := List.length_eq_zero_iff.1 (Nat.le_zero.1 hf)
    subst this; rfl
  | succ f ih =>
    intro s u t hf h
    cases s with
    | nil => rfl
    | cons k r =>
      simp only [List.length_cons] at hf
      cases hs : size k.toNat with
      | none =>
        rw [List.cons_append, entL_bad hs, entL_bad hs] at *
        rw [ih r u (t + 1) (by omega) (fun x hx => h x (by simp [hx])), List.length_cons, List.cons_append, Nat.add_assoc, Nat.add_comm 1]
      | some n =>
        by_cases hr : r.length < n
        · rw [entL_short hs hr] at h
          exact absurd rfl (h _ (List.mem_singleton.2 rfl))
        · have hr2 := Nat.le_of_not_lt hr
          rw [entL_ok hs hr2] at h
          rw [List.cons_append, entL_ok hs hr2, entL_ok hs (by simp; omega), List.take_append_of_le_length hr2, List.drop_append_of_le_length hr2,
            ih (r.drop n) u _ (by simp; omega) (fun x hx => h x (by simp [hx])), List.cons_append]
          simp only [List.length_drop, List.length_cons]
          rw [show t + 1 + n + (r.length - n) = t + (r.length + 1) by omega]
def We.shift (d : Nat) (x : We) : We := ⟨x.a, x.e, x.t + d⟩
theorem entL_shift : ∀ (f : Nat) (s : By) (t d : Nat), s.length ≤ f → entL (t + d) s = (entL t s).map (We.shift d) := by
  intro f
  induction f with
  | zero =>
    intro s t d hf
    have : s = [] := List.length_eq_zero_iff.1 (Nat.le_zero.1 hf)
    subst this; rfl
  | succ f ih =>
    intro s t d hf
    cases s with
    | nil => rfl
    | cons k r =>
      simp only [List.length_cons] at hf
      cases hs : size k.toNat with
      | none =>
        rw [entL_bad hs, entL_bad hs, List.map_cons, show t + d + 1 = t + 1 + d by omega, ih r (t + 1) d (by omega)]
        simp [We.shift]
      | some n =>
        by_cases hr : r.length < n
        · rw [entL_short hs hr, entL_short hs hr]; simp [We.shift]
        · have hr2 := Nat.le_of_not_lt hr
          rw [entL_ok hs hr2, entL_ok hs hr2, List.map_cons, show t + d + 1 + n = t + 1 + n + d by omega, ih (r.drop n) (t + 1 + n) d (by simp; omega)]
          simp [We.shift]
/-- A configuration: each node's domains, the queues, its own numbers. -/
structure Cf where
  ns : List (List (Int × Int))
  qs : List (Int × Int × Int)
  w : Int
  t : Int
  r : Int
  a : Int
  deriving DecidableEq
def domOk (x : Int × Int) : Bool := fit x.1 1 && fit x.2 2
def nodOk (l : List (Int × Int)) : Bool := fit l.length 1 && l.all domOk
def queOk (x : Int × Int × Int) : Bool := fit x.1 3 && fit x.2.1 3 && fit x.2.2 1
def endOk (c : Cf) : Bool := fit c.w 1 && fit c.t 1 && fit c.r 2 && fit c.a 2
def cfOk (c : Cf) : Bool := fit c.ns.length 1 && c.ns.all nodOk && fit c.qs.length 1 && c.qs.all queOk && endOk c
def domE (x : Int × Int) : By := enc x.1.toNat 1 ++ enc x.2.toNat 2
def nodE (l : List (Int × Int)) : By := enc l.length 1 ++ l.flatMap domE
def queE (x : Int × Int × Int) : By := enc x.1.toNat 3 ++ (enc x.2.1.toNat 3 ++ enc x.2.2.toNat 1)
def endE (c : Cf) : By := enc c.w.toNat 1 ++ (enc c.t.toNat 1 ++ (enc c.r.toNat 2 ++ enc c.a.toNat 2))
def cfE (c : Cf) : By := enc c.ns.length 1 ++ (c.ns.flatMap nodE ++ (enc c.qs.length 1 ++ (c.qs.flatMap queE ++ endE c)))
/-- A reader: what stands at the front, and what is left. -/
abbrev Rd (α : Type) := By → Option (α × By)
/-- A reader tells just what has these bytes, and just what may be. -/
structure Tells {α : Type} (p : Rd α) (ok : α → Bool) (e : α → By) : Prop where
  to : ∀ x r, ok x = true → p (e x ++ r) = some (x, r)
  of : ∀ l x r, p l = some (x, r) → ok x = true ∧ l = e x ++ r
/-- No beginning is told, but with all of it. -/
theorem Tells.cut {α : Type} {p : Rd α} {ok : α → Bool} {e : α → By} (h : Tells p ok e) {x : α} (hx : ok x = true) {n : Nat} (hn : n < (e x).length) : p ((e x).take n) = none := by
  cases hp : p ((e x).take n) with
  | none => rfl
  | some y =>
    obtain ⟨y, r⟩ := y
    obtain ⟨hy, he⟩ := h.of _ _ _ hp
    have h1 := h.to y (r ++ (e x).drop n) hy
    rw [← List.append_assoc, ← he, List.take_append_drop] at h1
    have h2 := h.to x [] hx
    rw [List.append_nil, h1] at h2
    simp only [Option.some.injEq, Prod.mk.injEq, List.append_eq_nil_iff, List.drop_eq_nil_iff] at h2
    omega
/-- So many bytes as a number. -/
def rdN (c : Nat) : Rd Nat := fun l => if l.length < c then none else some (num (l.take c), l.drop c)
theorem rdN_tells (c : Nat) : Tells (rdN c) (fun n => decide (n < 256 ^ c)) (fun n => enc n c) where
  to x r h := by
    unfold rdN
    have hl := enc_len c x
    rw [if_neg (by simp [hl])]
    rw [show (enc x c ++ r).take c = enc x c by have := List.take_left (l₁ := enc x c) (l₂ := r); rw [hl] at this; exact this,
      show (enc x c ++ r).drop c = r by have := List.drop_left (l₁ := enc x c) (l₂ := r); rw [hl] at this; exact this, num_enc _ _ (of_decide_eq_true h)]
  of l x r h := by
    unfold rdN at h
    by_cases hc : l.length < c
    · rw [if_pos hc] at h; cases h
    · rw [if_neg hc] at h
      simp only [Option.some.injEq, Prod.mk.injEq] at h
      obtain ⟨rfl, rfl⟩ := h
      have hl : (l.take c).length = c := by simp; omega
      have h1 := num_lt (l.take c)
      have h2 := enc_num (l.take c)
      rw [hl] at h1 h2
      exact ⟨decide_eq_true h1, by rw [h2, List.take_append_drop]⟩
/-- So many things, one behind the other. -/
def rep {α : Type} (p : Rd α) : Nat → Rd (List α)
  | 0, l => some ([], l)
  | n + 1, l => match p l with
    | none => none
    | some (x, r) => match rep p n r with
      | none => none
      | some (xs, r) => some (x :: xs, r)
theorem rep_to {α : Type} {p : Rd α} {ok : α → Bool} {e : α → By} (h : Tells p ok e) : ∀ (xs : List α) (r : By), xs.all ok = true → rep p xs.length (xs.flatMap e ++ r) = some (xs, r)
  | [], _, _ => rfl
  | x :: xs, r, hx => by
    simp only [List.all_cons, Bool.and_eq_true] at hx
    simp only [List.flatMap_cons, List.append_assoc, List.length_cons, rep]
    rw [h.to _ _ hx.1]
    simp only
    rw [rep_to h xs r hx.2]
theorem rep_of {α : Type} {p : Rd α} {ok : α → Bool} {e : α → By} (h : Tells p ok e) : ∀ (n : Nat) (l : By) (xs : List α) (r : By), rep p n l = some (xs, r) → xs.length = n ∧ xs.all ok = true ∧ l = xs.flatMap e ++ r
  | 0, l, xs, r, hp => by
    simp only [rep, Option.some.injEq, Prod.mk.injEq] at hp
    obtain ⟨rfl, rfl⟩ := hp
    exact ⟨rfl, rfl, rfl⟩
  | n + 1, l, xs, r, hp => by
    unfold rep at hp
    cases h1 : p l with
    | none => rw [h1] at hp; cases hp
    | some y =>
      obtain ⟨x, r1⟩ := y
      rw [h1] at hp; simp only at hp
      cases h2 : rep p n r1 with
      | none => rw [h2] at hp; cases hp
      | some z =>
        obtain ⟨ys, r2⟩ := z
        rw [h2] at hp
        simp only [Option.some.injEq, Prod.mk.injEq] at hp
        obtain ⟨rfl, rfl⟩ := hp
        obtain ⟨a1, a2⟩ := h.of _ _ _ h1
        obtain ⟨b1, b2, b3⟩ := rep_of h n _ _ _ h2
        exact ⟨by simp [b1], by simp [a1, b2], by rw [a2, b3]; simp⟩
/-- One behind the other. -/
def seq {α β γ : Type} (f : α → β → γ) (p : Rd α) (q : α → Rd β) : Rd γ := fun l =>
  match p l with
  | none => none
  | some (x, r) => match q x r with
    | none => none
    | some (y, r) => some (f x y, r)
def rdDom : Rd (Int × Int) := seq (fun (a b : Nat) => ((a : Int), (b : Int))) (rdN 1) fun _ => rdN 2
def rdNod : Rd (List (Int × Int)) := seq (fun _ y => y) (rdN 1) fun n => rep rdDom n
def rdQue : Rd (Int × Int × Int) := seq (fun (a : Nat) (b : Nat × Nat) => ((a : Int), (b.1 : Int), (b.2 : Int))) (rdN 3) fun _ => seq (fun a b => (a, b)) (rdN 3) fun _ => rdN 1
def rdEnd : Rd (Nat × Nat × Nat × Nat) := seq (fun a b => (a, b)) (rdN 1) fun _ => seq (fun a b => (a, b)) (rdN 1) fun _ => seq (fun a b => (a, b)) (rdN 2) fun _ => rdN 2
def rdCf : Rd Cf := seq (fun x (y : List (Int × Int × Int) × (Nat × Nat × Nat × Nat)) => ⟨x, y.1, y.2.1, y.2.2.1, y.2.2.2.1, y.2.2.2.2⟩)
  (seq (fun _ y => y) (rdN 1) fun n => rep rdNod n) fun _ => seq (fun a b => (a, b)) (seq (fun _ y => y) (rdN 1) fun n => rep rdQue n) fun _ => rdEnd
theorem seq_some {α β γ : Type} {f : α → β → γ} {p : Rd α} {q : α → Rd β} {l : By} {z : γ} {r : By} :
    seq f p q l = some (z, r) ↔ ∃ x r1 y, p l = some (x, r1) ∧ q x r1 = some (y, r) ∧ f x y = z := by
  unfold seq
  constructor
  · intro h
    cases h1 : p l with
    | none => rw [h1] at h; cases h
    | some a =>
      obtain ⟨x, r1⟩ := a
      rw [h1] at h; simp only at h
      cases h2 : q x r1 with
      | none => rw [h2] at h; cases h
      | some b =>
        obtain ⟨y, r2⟩ := b
        rw [h2] at h
        simp only [Option.some.injEq, Prod.mk.injEq] at h
        obtain ⟨rfl, rfl⟩ := h
        exact ⟨x, r1, y, rfl, h2, rfl⟩
  · rintro ⟨x, r1, y, h1, h2, rfl⟩
    rw [h1]; simp only; rw [h2]
theorem fit_nat {n : Int} {c : Nat} (h : fit n c = true) : n.toNat < 256 ^ c ∧ ((n.toNat : Nat) : Int) = n := by
  have := fit_iff.1 h
  have h2 : ((256 ^ c : Nat) : Int) = 256 ^ c := by push_cast; rfl
  omega
theorem fit_of {n c : Nat} (h : n < 256 ^ c) : fit n c = true := by
  have h2 : ((256 ^ c : Nat) : Int) = 256 ^ c := by push_cast; rfl
  exact fit_iff.2 ⟨by omega, by omega⟩
theorem dom_tells : Tells rdDom domOk domE where
  to x r h := by
    simp only [domOk, Bool.and_eq_true] at h
    obtain ⟨a1, a2⟩ := fit_nat h.1
    obtain ⟨b1, b2⟩ := fit_nat h.2
    unfold rdDom domE
    rw [List.append_assoc]
    exact seq_some.2 ⟨_, _, _, (rdN_tells 1).to _ _ (decide_eq_true a1), (rdN_tells 2).to _ _ (decide_eq_true b1), by rw [a2, b2]⟩
  of l x r h := by
    obtain ⟨a, r1, b, h1, h2, rfl⟩ := seq_some.1 h
    obtain ⟨o1, rfl⟩ := (rdN_tells 1).of _ _ _ h1
    obtain ⟨o2, rfl⟩ := (rdN_tells 2).of _ _ _ h2
    exact ⟨by simp [domOk, fit_of (of_decide_eq_true o1), fit_of (of_decide_eq_true o2)], by simp [domE]⟩
theorem nod_tells : Tells rdNod nodOk nodE where
  to x r h := by
    simp only [nodOk, Bool.and_eq_true] at h
    obtain ⟨a1, a2⟩ := fit_nat h.1
    unfold rdNod nodE
    rw [List.append_assoc]
    exact seq_some.2 ⟨_, _, _, (rdN_tells 1).to _ _ (decide_eq_true (by simpa using a1)), rep_to dom_tells _ _ h.2, rfl⟩
  of l x r h := by
    obtain ⟨a, r1, b, h1, h2, rfl⟩ := seq_some.1 h
    obtain ⟨o1, rfl⟩ := (rdN_tells 1).of _ _ _ h1
    obtain ⟨rfl, o2, rfl⟩ := rep_of dom_tells _ _ _ _ h2
    exact ⟨by simp [nodOk, fit_of (of_decide_eq_true o1), o2], by simp [nodE]⟩
theorem que_tells : Tells rdQue queOk queE where
  to x r h := by
    simp only [queOk, Bool.and_eq_true] at h
    obtain ⟨a1, a2⟩ := fit_nat h.1.1
    obtain ⟨b1, b2⟩ := fit_nat h.1.2
    obtain ⟨c1, c2⟩ := fit_nat h.2
    unfold rdQue queE
    simp only [List.append_assoc]
    exact seq_some.2 ⟨_, _, _, (rdN_tells 3).to _ _ (decide_eq_true a1), seq_some.2 ⟨_, _, _, (rdN_tells 3).to _ _ (decide_eq_true b1), (rdN_tells 1).to _ _ (decide_eq_true c1), rfl⟩, by simp only [a2, b2, c2]⟩
  of l x r h := by
    obtain ⟨a, r1, b, h1, h2, rfl⟩ := seq_some.1 h
    obtain ⟨b, r2, c, h4, h3, rfl⟩ := seq_some.1 h2
    obtain ⟨o1, rfl⟩ := (rdN_tells 3).of _ _ _ h1
    obtain ⟨o2, rfl⟩ := (rdN_tells 3).of _ _ _ h4
    obtain ⟨o3, rfl⟩ := (rdN_tells 1).of _ _ _ h3
    exact ⟨by simp [queOk, fit_of (of_decide_eq_true o1), fit_of (of_decide_eq_true o2), fit_of (of_decide_eq_true o3)], by simp [queE]⟩
theorem cf_tells : Tells rdCf cfOk cfE where
  to x r h := by
    simp only [cfOk, endOk, Bool.and_eq_true] at h
    obtain ⟨⟨⟨⟨hn, hns⟩, hq⟩, hqs⟩, ⟨⟨hw, ht⟩, hr⟩, ha⟩ := h
    obtain ⟨n1, n2⟩ := fit_nat hn
    obtain ⟨q1, q2⟩ := fit_nat hq
    obtain ⟨w1, w2⟩ := fit_nat hw
    obtain ⟨t1, t2⟩ := fit_nat ht
    obtain ⟨r1, r2⟩ := fit_nat hr
    obtain ⟨a1, a2⟩ := fit_nat ha
    unfold rdCf cfE endE
    simp only [List.append_assoc]
    exact seq_some.2 ⟨_, _, _, seq_some.2 ⟨_, _, _, (rdN_tells 1).to _ _ (decide_eq_true (by simpa using n1)), rep_to nod_tells _ _ hns, rfl⟩,
      seq_some.2 ⟨_, _, _, seq_some.2 ⟨_, _, _, (rdN_tells 1).to _ _ (decide_eq_true (by simpa using q1)), rep_to que_tells _ _ hqs, rfl⟩,
        seq_some.2 ⟨_, _, _, (rdN_tells 1).to _ _ (decide_eq_true w1), seq_some.2 ⟨_, _, _, (rdN_tells 1).to _ _ (decide_eq_true t1),
          seq_some.2 ⟨_, _, _, (rdN_tells 2).to _ _ (decide_eq_true r1), (rdN_tells 2).to _ _ (decide_eq_true a1), rfl⟩, rfl⟩, rfl⟩, rfl⟩, by simp only [w2, t2, r2, a2]⟩
  of l x r h := by
    obtain ⟨ns, s1, y, h1, h2, rfl⟩ := seq_some.1 h
    obtain ⟨n, s2, ns, k1, h3, rfl⟩ := seq_some.1 h1
    obtain ⟨qs, s3, z, h4, h5, rfl⟩ := seq_some.1 h2
    obtain ⟨q, s4, qs, k4, h6, rfl⟩ := seq_some.1 h4
    obtain ⟨w, s5, u, h7, h8, rfl⟩ := seq_some.1 h5
    obtain ⟨t, s6, v, h9, h10, rfl⟩ := seq_some.1 h8
    obtain ⟨r', s7, a, h11, h12, rfl⟩ := seq_some.1 h10
    obtain ⟨o1, rfl⟩ := (rdN_tells 1).of _ _ _ k1
    obtain ⟨rfl, o2, rfl⟩ := rep_of nod_tells _ _ _ _ h3
    obtain ⟨o3, rfl⟩ := (rdN_tells 1).of _ _ _ k4
    obtain ⟨rfl, o4, rfl⟩ := rep_of que_tells _ _ _ _ h6
    obtain ⟨o5, rfl⟩ := (rdN_tells 1).of _ _ _ h7
    obtain ⟨o6, rfl⟩ := (rdN_tells 1).of _ _ _ h9
    obtain ⟨o7, rfl⟩ := (rdN_tells 2).of _ _ _ h11
    obtain ⟨o8, rfl⟩ := (rdN_tells 2).of _ _ _ h12
    exact ⟨by simp [cfOk, endOk, fit_of (of_decide_eq_true o1), fit_of (of_decide_eq_true o3), fit_of (of_decide_eq_true o5), fit_of (of_decide_eq_true o6), fit_of (of_decide_eq_true o7), fit_of (of_decide_eq_true o8), o2, o4], by simp [cfE, endE]⟩
def Cf.zero : Cf := ⟨[], [], 0, 0, 0, 0⟩
/-- What Config tells: a configuration, what is left, an error. -/
def cfR (l : By) : Cf × By × Int := match rdCf l with
  | none => (Cf.zero, [], 11)
  | some (c, r) => (c, r, 0)
/-- What PutConfig tells. -/
def putC (c : Cf) : By × Int := if cfOk c then (cfE c, 0) else ([], 1)
end WM
end Go.Proofs.Ytplekkpfpidebaa
