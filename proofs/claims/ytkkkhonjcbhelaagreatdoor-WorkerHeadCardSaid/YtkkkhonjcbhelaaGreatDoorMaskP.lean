import Derived.Lib.TrailingZeros
import Derived.WalkKit
import Derived.Lib.Hide
import Derived.RangeFuncNested
import Derived.RangeFuncBound
import Derived.Shelf.RegionOpen
import Derived.OwnWalkIn
import Derived.LoopNIn
import Derived.LoopIn
import Derived.Maps.AppendAt
import Derived.Test.YtkkkhonjcbhelaaGreatDoorRows
import Derived.ProofKit
import Derived.LaidMore
import Derived.OpenShut
import Derived.Stop.Joined
import Derived.Lib.LaidTab
namespace Go.Proofs.YtkkkhonjcbhelaaGreatDoor.MM
open Go.Lib (ctz ctzFrom)
def uf : Nat → Nat → Nat → List Nat
 | 0, _, _ => []
 | f + 1, i, m => if m % 2 = 1 then i :: uf f (i + 1) (m / 2) else uf f (i + 1) (m / 2)
def units (m : Nat) : List Nat := uf 64 0 m
def cnt (m : Nat) : Nat := (units m).length
def ofu (l : List Nat) : Nat := l.foldl (fun a k => a ||| 2 ^ k) 0
def pc : Nat → Nat → Nat
 | 0, _ => 0
 | f + 1, m => m % 2 + pc f (m / 2)
theorem uf_len : ∀ (f i m : Nat), (uf f i m).length = pc f m
 | 0, _, _ => rfl
 | f + 1, i, m => by
  unfold uf pc
  split
  ·rename_i h; simp [uf_len f (i + 1) (m / 2)]; omega
  ·rename_i h; simp [uf_len f (i + 1) (m / 2)]; omega
theorem cnt_pc (m : Nat) : cnt m = pc 64 m := uf_len 64 0 m
theorem pc_le : ∀ (f m : Nat), pc f m ≤ f
 | 0, _ => Nat.le_refl _
 | f + 1, m => by unfold pc; have := pc_le f (m / 2); omega
theorem cnt_le (m : Nat) : cnt m ≤ 64 := by rw [cnt_pc]; exact pc_le 64 m
theorem uf_mem : ∀ (f i m k : Nat), k ∈ uf f i m ↔ i ≤ k ∧ k < i + f ∧ m.testBit (k - i) = true
 | 0, i, m, k => by simp [uf]; omega
 | f + 1, i, m, k => by
  have hd : (k ∈ uf f (i + 1) (m / 2)) ↔ i + 1 ≤ k ∧ k < i + 1 + f ∧ m.testBit (k - i) = true := by
   rw [uf_mem f (i + 1) (m / 2) k];constructor
   ·rintro ⟨a, b, c⟩;refine ⟨a, b, ?_⟩;rw [show k - i = (k - (i + 1)) + 1 from by omega, Nat.testBit_add_one];exact c
   ·rintro ⟨a, b, c⟩;refine ⟨a, b, ?_⟩;rw [show k - i = (k - (i + 1)) + 1 from by omega, Nat.testBit_add_one] at c;exact c
  unfold uf;by_cases h : m % 2 = 1
  ·rw [if_pos h, List.mem_cons, hd];constructor
   ·rintro (rfl | ⟨a, b, c⟩)
    ·refine ⟨Nat.le_refl _, by omega, ?_⟩;rw [Nat.sub_self]; exact Nat.mod_two_eq_one_iff_testBit_zero.1 h
    ·exact ⟨by omega, by omega, c⟩
   ·rintro ⟨a, b, c⟩;by_cases e : k = i
    ·exact .inl e
    ·exact .inr ⟨by omega, by omega, c⟩
  ·rw [if_neg h, hd];constructor
   ·rintro ⟨a, b, c⟩; exact ⟨by omega, by omega, c⟩
   ·rintro ⟨a, b, c⟩;refine ⟨?_, by omega, c⟩;by_cases e : k = i
    ·subst e;rw [Nat.sub_self] at c;exact absurd (Nat.mod_two_eq_one_iff_testBit_zero.2 c) h
    ·omega
theorem units_mem {m k : Nat} : k ∈ units m ↔ k < 64 ∧ m.testBit k = true := by
 unfold units; rw [uf_mem]; simp
theorem uf_sorted : ∀ (f i m : Nat), (uf f i m).Pairwise (· < ·)
 | 0, _, _ => List.Pairwise.nil
 | f + 1, i, m => by
  unfold uf
  split
  ·refine List.Pairwise.cons ?_ (uf_sorted f (i + 1) (m / 2));intro k hk;have := (uf_mem f (i + 1) (m / 2) k).1 hk;omega
  ·exact uf_sorted f (i + 1) (m / 2)
theorem units_sorted (m : Nat) : (units m).Pairwise (· < ·) := uf_sorted 64 0 m
theorem and_pred_even (n : Nat) (h : 0 < n) : (2 * n) &&& (2 * n - 1) = 2 * (n &&& (n - 1)) := by
 apply Nat.eq_of_testBit_eq;intro i
 cases i with
 | zero =>
  have e : (2 * (n &&& (n - 1))).testBit 0 = false := by simp [Nat.testBit_zero]
  rw [Nat.testBit_and, e];simp [Nat.testBit_zero]
 | succ i =>
  rw [Nat.testBit_and, Nat.testBit_add_one, Nat.testBit_add_one, Nat.testBit_add_one];rw [show 2 * n / 2 = n from by omega, show (2 * n - 1) / 2 = n - 1 from by omega, show 2 * (n &&& (n - 1)) / 2 = n &&& (n - 1) from by omega, Nat.testBit_and]
theorem and_pred_odd (m : Nat) (h : m % 2 = 1) : m &&& (m - 1) = m - 1 := by
 apply Nat.eq_of_testBit_eq;intro i
 cases i with
 | zero =>
  rw [Nat.testBit_and];have : (m - 1).testBit 0 = false := by simp [Nat.testBit_zero]; omega
  rw [this]; simp
 | succ i =>
  rw [Nat.testBit_and, Nat.testBit_add_one, Nat.testBit_add_one];rw [show (m - 1) / 2 = m / 2 from by omega]
  simp
theorem uf_step : ∀ (f i m : Nat), m ≠ 0 → m < 2 ^ f → uf f i m = (i + ctzFrom f m) :: uf f i (m &&& (m - 1))
 | 0, i, m, h0, h => by simp at h; omega
 | f + 1, i, m, h0, h => by
  by_cases h1 : m % 2 = 1
  ·rw [and_pred_odd m h1];unfold uf ctzFrom;rw [if_pos h1, if_pos h1, if_neg (show ¬ (m - 1) % 2 = 1 by omega)];rw [show (m - 1) / 2 = m / 2 from by omega]; rfl
  ·obtain ⟨n, rfl⟩ : ∃ n, m = 2 * n := ⟨m / 2, by omega⟩
   have hn : n < 2 ^ f := by rw [Nat.pow_succ] at h; omega
   rw [and_pred_even n (by omega)];unfold uf ctzFrom;rw [if_neg h1, if_neg h1, if_neg (show ¬ (2 * (n &&& (n - 1))) % 2 = 1 by omega)];rw [show 2 * n / 2 = n from by omega, show 2 * (n &&& (n - 1)) / 2 = n &&& (n - 1) from by omega];rw [uf_step f (i + 1) n (by omega) hn]
   congr 1; omega
theorem units_zero : units 0 = [] := by decide
theorem units_step {m : Nat} (h0 : m ≠ 0) (h : m < 18446744073709551616) : units m = ctz 64 m :: units (m &&& (m - 1)) := by
 have := uf_step 64 0 m h0 h;unfold units;rw [this];simp [ctz, h0]
theorem ctz_lt {m : Nat} (h0 : m ≠ 0) (h : m < 18446744073709551616) : ctz 64 m < 64 := (Lib.lowest_bit 64 m h0 h).2
theorem and_lt (m a : Nat) (h : m < 18446744073709551616) : m &&& a < 18446744073709551616 := Nat.lt_of_le_of_lt Nat.and_le_left h
theorem eq_of_sorted : ∀ (l l' : List Nat), l.Pairwise (· < ·) → l'.Pairwise (· < ·) → (∀ k, k ∈ l ↔ k ∈ l') → l = l'
 | [], [], _, _, _ => rfl
 | [], b :: _, _, _, h => by have := (h b).2 (by simp); simp at this
 | a :: _, [], _, _, h => by have := (h a).1 (by simp); simp at this
 | a :: l, b :: l', h1, h2, h => by
  have h1' := List.pairwise_cons.1 h1;have h2' := List.pairwise_cons.1 h2;have hab : a = b := by
   have ha := (h a).1 (by simp);have hb := (h b).2 (by simp);rcases List.mem_cons.1 ha with e | e
   ·exact e
   ·rcases List.mem_cons.1 hb with e' | e'
    ·exact e'.symm
    ·have := h2'.1 a e; have := h1'.1 b e'; omega
  subst hab
  congr 1
  refine eq_of_sorted l l' h1'.2 h2'.2 fun k => ?_
  constructor
  ·intro hk;have := h1'.1 k hk;rcases List.mem_cons.1 ((h k).1 (List.mem_cons_of_mem _ hk)) with e | e
   ·omega
   ·exact e
  ·intro hk;have := h2'.1 k hk;rcases List.mem_cons.1 ((h k).2 (List.mem_cons_of_mem _ hk)) with e | e
   ·omega
   ·exact e
theorem foldl_or (l : List Nat) : ∀ a i, (l.foldl (fun a k => a ||| 2 ^ k) a).testBit i = (a.testBit i || decide (i ∈ l)) := by
 induction l with
 | nil => intro a i; simp
 | cons k l ih =>
  intro a i;rw [List.foldl_cons, ih, Nat.testBit_or, Nat.testBit_two_pow];by_cases h : k = i
  ·subst h; simp
  ·have : ¬ i = k := fun e => h e.symm
   simp [h, this]
theorem testBit_ofu (l : List Nat) (i : Nat) : (ofu l).testBit i = decide (i ∈ l) := by unfold ofu; rw [foldl_or]; simp
theorem ofu_snoc (l : List Nat) (k : Nat) : ofu (l ++ [k]) = ofu l ||| 2 ^ k := by simp [ofu]
theorem lt_of_bits {a : Nat} (h : ∀ i, a.testBit i = true → i < 64) : a < 18446744073709551616 := by
 apply Nat.lt_of_not_le;intro hle;obtain ⟨i, hi, hb⟩ := Nat.exists_ge_and_testBit_of_ge_two_pow (n := 64) (x := a) hle;have := h i hb;omega
theorem ofu_lt {l : List Nat} (h : ∀ k ∈ l, k < 64) : ofu l < 18446744073709551616 := lt_of_bits fun i hi => by
 rw [testBit_ofu] at hi; exact h i (by simpa using hi)
theorem bits_lt {m i : Nat} (h : m < 18446744073709551616) (hb : m.testBit i = true) : i < 64 := by
 apply Nat.lt_of_not_le;intro hle;have h1 : 2 ^ 64 ≤ 2 ^ i := Nat.pow_le_pow_right (by decide) hle;have h2 := Nat.ge_two_pow_of_testBit hb;omega
theorem units_ofu {l : List Nat} (hs : l.Pairwise (· < ·)) (h : ∀ k ∈ l, k < 64) : units (ofu l) = l := by
 refine eq_of_sorted _ _ (units_sorted _) hs fun k => ?_
 rw [units_mem, testBit_ofu]
 simp
 exact h k
theorem take_sorted {l : List Nat} (hs : l.Pairwise (· < ·)) (n : Nat) : (l.take n).Pairwise (· < ·) := hs.sublist (List.take_sublist n l)
theorem units_lt {m k : Nat} (h : k ∈ units m) : k < 64 := (units_mem.1 h).1
def low (m n : Nat) : Nat := ofu ((units m).take n)
theorem units_low (m n : Nat) : units (low m n) = (units m).take n :=
 units_ofu (take_sorted (units_sorted m) n) fun _ hk => units_lt (List.mem_of_mem_take hk)
theorem low_lt (m n : Nat) : low m n < 18446744073709551616 := ofu_lt fun _ hk => units_lt (List.mem_of_mem_take hk)
theorem cnt_low {m n : Nat} (h : n ≤ cnt m) : cnt (low m n) = n := by
 unfold cnt; rw [units_low, List.length_take]; unfold cnt at h; omega
/-! The library's way to count. -/
def bm (f : Nat → Nat) : Nat → Nat → Nat
 | 0, _ => 0
 | n + 1, x => f (x % 256) + 256 * bm f n (x / 256)
def mk (c : Nat) : Nat → Nat
 | 0 => 0
 | n + 1 => 256 * mk c n + c
theorem and_byte (y b M c : Nat) (hb : b < 256) (hc : c < 256) : (256 * y + b) &&& (256 * M + c) = 256 * (y &&& M) + (b &&& c) := by
 have h1 : ((256 * y + b) &&& (256 * M + c)) / 2 ^ 8 = y &&& M := by
  rw [Nat.and_div_two_pow];rw [show (256 * y + b) / 2 ^ 8 = y from by omega, show (256 * M + c) / 2 ^ 8 = M from by omega]
 have h2 : ((256 * y + b) &&& (256 * M + c)) % 2 ^ 8 = b &&& c := by
  rw [Nat.and_mod_two_pow];rw [show (256 * y + b) % 2 ^ 8 = b from by omega, show (256 * M + c) % 2 ^ 8 = c from by omega]
 omega
theorem bm_comp (f g : Nat → Nat) (hf : ∀ b, b < 256 → f b < 256) : ∀ n x, bm g n (bm f n x) = bm (fun b => g (f b)) n x
 | 0, _ => rfl
 | n + 1, x => by
  have hb := hf (x % 256) (Nat.mod_lt _ (by decide))
  conv => lhs; arg 3; unfold bm
  unfold bm;rw [show (f (x % 256) + 256 * bm f n (x / 256)) % 256 = f (x % 256) from by omega, show (f (x % 256) + 256 * bm f n (x / 256)) / 256 = bm f n (x / 256) from by omega, bm_comp f g hf n]
def t1 (b : Nat) : Nat := (b / 2 &&& 85) + (b &&& 85)
def t2 (b : Nat) : Nat := (b / 4 &&& 51) + (b &&& 51)
def t3 (b : Nat) : Nat := (b / 16 + b) &&& 15
theorem t1_at : ∀ b, b < 256 → ∀ r, r < 2 → (128 * r + b / 2) &&& 85 = b / 2 &&& 85 := by decide +kernel
theorem t2_at : ∀ b, b < 256 → ∀ r, r < 4 → (64 * r + b / 4) &&& 51 = b / 4 &&& 51 := by decide +kernel
theorem t3_at : ∀ b, b < 256 → b / 16 ≤ 4 → b % 16 ≤ 4 → ∀ r, r < 5 → (16 * r + b / 16 + b) &&& 15 = t3 b := by decide +kernel
theorem t1_lt : ∀ b, b < 256 → t1 b < 256 := by decide +kernel
theorem t12_nib : ∀ b, b < 256 → t2 (t1 b) < 256 ∧ t2 (t1 b) / 16 ≤ 4 ∧ t2 (t1 b) % 16 ≤ 4 := by decide +kernel
theorem t123 : ∀ b, b < 256 → t3 (t2 (t1 b)) = pc 8 b := by decide +kernel
theorem s1_eq : ∀ n x, x < 256 ^ n → (x / 2 &&& mk 85 n) + (x &&& mk 85 n) = bm t1 n x
 | 0, x, h => by simp [mk, bm]
 | n + 1, x, h => by
  have hx : x = 256 * (x / 256) + x % 256 := by omega
  have hlt : x / 256 < 256 ^ n := by rw [Nat.pow_succ] at h; omega
  have e1 : x / 2 = 256 * (x / 256 / 2) + (128 * (x / 256 % 2) + x % 256 / 2) := by omega
  have hm : x % 256 < 256 := Nat.mod_lt _ (by decide);unfold bm mk;rw [e1, and_byte _ _ _ _ (by omega) (by decide), t1_at _ hm _ (by omega)]
  conv => lhs; arg 2; arg 1; rw [hx]
  rw [and_byte _ _ _ _ hm (by decide), ← s1_eq n (x / 256) hlt];unfold t1; omega
theorem s2_eq : ∀ n x, x < 256 ^ n → (x / 4 &&& mk 51 n) + (x &&& mk 51 n) = bm t2 n x
 | 0, x, h => by simp [mk, bm]
 | n + 1, x, h => by
  have hx : x = 256 * (x / 256) + x % 256 := by omega
  have hlt : x / 256 < 256 ^ n := by rw [Nat.pow_succ] at h; omega
  have e1 : x / 4 = 256 * (x / 256 / 4) + (64 * (x / 256 % 4) + x % 256 / 4) := by omega
  have hm : x % 256 < 256 := Nat.mod_lt _ (by decide);unfold bm mk;rw [e1, and_byte _ _ _ _ (by omega) (by decide), t2_at _ hm _ (by omega)]
  conv => lhs; arg 2; arg 1; rw [hx]
  rw [and_byte _ _ _ _ hm (by decide), ← s2_eq n (x / 256) hlt];unfold t2; omega
theorem s3_eq (u : Nat → Nat) (hu : ∀ b, b < 256 → u b < 256 ∧ u b / 16 ≤ 4 ∧ u b % 16 ≤ 4) : ∀ n x, (bm u n x / 16 + bm u n x) &&& mk 15 n = bm (fun b => t3 (u b)) n x
 | 0, x => by simp [mk, bm]
 | n + 1, x => by
  obtain ⟨h1, h2, h3⟩ := hu (x % 256) (Nat.mod_lt _ (by decide));have ih := s3_eq u hu n (x / 256);have hy : bm u n (x / 256) % 16 ≤ 4 := by
   cases n with
   | zero => simp [bm]
   | succ n =>
    unfold bm;have := (hu (x / 256 % 256) (Nat.mod_lt _ (by decide))).2.2;omega
  unfold bm mk;generalize bm u n (x / 256) = y at *;generalize u (x % 256) = b at *;rw [show (b + 256 * y) / 16 + (b + 256 * y) = 256 * (y / 16 + y) + (16 * (y % 16) + b / 16 + b) from by omega];rw [and_byte _ _ _ _ (by omega) (by decide), t3_at b h1 h2 h3 _ (by omega), ih];omega
theorem pc_add : ∀ (a b x : Nat), pc (a + b) x = pc a x + pc b (x / 2 ^ a)
 | 0, b, x => by simp [pc]
 | a + 1, b, x => by
  rw [show a + 1 + b = (a + b) + 1 from by omega];show x % 2 + pc (a + b) (x / 2) = x % 2 + pc a (x / 2) + pc b (x / 2 ^ (a + 1));rw [pc_add a b (x / 2), Nat.div_div_eq_div_mul, Nat.pow_succ, Nat.mul_comm (2 ^ a)];omega
theorem pc_mod : ∀ (a x : Nat), pc a (x % 2 ^ a) = pc a x
 | 0, x => rfl
 | a + 1, x => by
  unfold pc;have e1 : x % 2 ^ (a + 1) % 2 = x % 2 := by
   rw [Nat.pow_succ]; exact Nat.mod_mul_left_mod x (2 ^ a) 2
  have e2 : x % 2 ^ (a + 1) / 2 = x / 2 % 2 ^ a := by
   rw [Nat.pow_succ, Nat.mul_comm]; exact Nat.mod_mul_right_div_self x 2 (2 ^ a)
  rw [e1, e2, pc_mod a (x / 2)]
theorem bm_lt (f : Nat → Nat) (hf : ∀ b, b < 256 → f b < 256) : ∀ n x, bm f n x < 256 ^ n
 | 0, _ => by simp [bm]
 | n + 1, x => by
  unfold bm;have := hf (x % 256) (Nat.mod_lt _ (by decide));have := bm_lt f hf n (x / 256);rw [Nat.pow_succ]; omega
def z1 (x : Nat) : Nat := (x / 2 &&& 6148914691236517205) + (x &&& 6148914691236517205)
def z2 (x : Nat) : Nat := (x / 4 &&& 3689348814741910323) + (x &&& 3689348814741910323)
def z3 (x : Nat) : Nat := (x / 16 + x) &&& 1085102592571150095
theorem z_eq (x : Nat) (h : x < 18446744073709551616) : z3 (z2 (z1 x)) = bm (fun b => pc 8 b) 8 x := by
 have a1 : z1 x = bm t1 8 x := by rw [← s1_eq 8 x h]; rfl
 have a2 : z2 (z1 x) = bm (fun b => t2 (t1 b)) 8 x := by
  rw [a1, ← bm_comp t1 t2 t1_lt, ← s2_eq 8 _ (bm_lt _ t1_lt _ _)]; rfl
 have a3 : z3 (z2 (z1 x)) = bm (fun b => t3 (t2 (t1 b))) 8 x := by
  rw [a2, ← s3_eq _ t12_nib 8 x]; rfl
 rw [a3];simp only [bm];rw [t123 _ (Nat.mod_lt _ (by decide)), t123 _ (Nat.mod_lt _ (by decide)), t123 _ (Nat.mod_lt _ (by decide)), t123 _ (Nat.mod_lt _ (by decide)), t123 _ (Nat.mod_lt _ (by decide)), t123 _ (Nat.mod_lt _ (by decide)), t123 _ (Nat.mod_lt _ (by decide)), t123 _ (Nat.mod_lt _ (by decide))]
theorem bm_half (f : Nat → Nat) (hf : ∀ b, b < 256 → f b < 128) : ∀ n x, bm f (n + 1) x < 128 * 256 ^ n
 | 0, x => by unfold bm; have := hf (x % 256) (Nat.mod_lt _ (by decide)); simp [bm]; omega
 | n + 1, x => by
  unfold bm;have := hf (x % 256) (Nat.mod_lt _ (by decide));have := bm_half f hf n (x / 256);rw [Nat.pow_succ]; omega
theorem t12_half : ∀ b, b < 256 → t2 (t1 b) < 128 := by decide +kernel
theorem z_lt (x : Nat) (h : x < 18446744073709551616) : z1 x < 18446744073709551616 ∧ z2 (z1 x) < 9223372036854775808 ∧ z3 (z2 (z1 x)) < 18446744073709551616 := by
 have a1 : z1 x = bm t1 8 x := by rw [← s1_eq 8 x h]; rfl
 have a2 : z2 (z1 x) = bm (fun b => t2 (t1 b)) 8 x := by
  rw [a1, ← bm_comp t1 t2 t1_lt, ← s2_eq 8 _ (bm_lt _ t1_lt _ _)]; rfl
 refine ⟨by rw [a1]; exact bm_lt _ t1_lt 8 x, by rw [a2]; exact bm_half _ t12_half 7 x, Nat.lt_of_le_of_lt Nat.and_le_right (by decide)⟩
theorem pc_bytes (x : Nat) : pc 64 x = pc 8 (x % 256) + (pc 8 (x / 256 % 256) + (pc 8 (x / 256 / 256 % 256) + (pc 8 (x / 256 / 256 / 256 % 256) + (pc 8 (x / 256 / 256 / 256 / 256 % 256) + (pc 8 (x / 256 / 256 / 256 / 256 / 256 % 256) + (pc 8 (x / 256 / 256 / 256 / 256 / 256 / 256 % 256) + pc 8 (x / 256 / 256 / 256 / 256 / 256 / 256 / 256 % 256))))))) := by
 have one : ∀ n y, pc (8 + n) y = pc 8 (y % 256) + pc n (y / 256) := fun n y => by rw [pc_add 8 n y, ← pc_mod 8 y]
 have last : ∀ y, pc 8 y = pc 8 (y % 256) := fun y => (pc_mod 8 y).symm
 rw [show (64 : Nat) = 8 + (8 + (8 + (8 + (8 + (8 + (8 + 8)))))) from rfl, one, one, one, one, one, one, one];rw [last (x / 256 / 256 / 256 / 256 / 256 / 256 / 256)]
theorem div_byte (r q : Nat) (h : r < 256) : (r + 256 * q) / 256 = q := by omega
theorem div2 (r0 r1 q : Nat) (h0 : r0 < 256) (h1 : r1 < 256) : (r0 + 256 * (r1 + 256 * q)) / 65536 = q := by
 rw [show 65536 = 256 * 256 from rfl, ← Nat.div_div_eq_div_mul, div_byte _ _ h0, div_byte _ _ h1]
theorem div4 (r0 r1 r2 r3 q : Nat) (h0 : r0 < 256) (h1 : r1 < 256) (h2 : r2 < 256) (h3 : r3 < 256) : (r0 + 256 * (r1 + 256 * (r2 + 256 * (r3 + 256 * q)))) / 4294967296 = q := by
 rw [show 4294967296 = 65536 * 65536 from rfl, ← Nat.div_div_eq_div_mul, div2 _ _ _ h0 h1, div2 _ _ _ h2 h3]
theorem mod_byte (r q : Nat) (h : r < 128) : (r + 256 * q) % 128 = r := by omega
theorem byte_lt (r q N : Nat) (h : r < 256) (hq : q < N) : r + 256 * q < 256 * N := by omega
theorem L2 {a b : Nat} (x : a ≤ 8) (y : b ≤ 8) : a + b < 256 := by omega
theorem L3 {a b c : Nat} (x : a ≤ 8) (y : b ≤ 8) (z : c ≤ 8) : a + b + c < 256 := by omega
theorem L4 {a b c d : Nat} (x : a ≤ 8) (y : b ≤ 8) (z : c ≤ 8) (t : d ≤ 8) : a + b + (c + d) < 256 := by omega
theorem L8 {a b c d e f g h : Nat} (x : a ≤ 8) (y : b ≤ 8) (z : c ≤ 8) (t : d ≤ 8) (x' : e ≤ 8) (y' : f ≤ 8) (z' : g ≤ 8) (t' : h ≤ 8) : a + b + (c + d) + (e + f + (g + h)) < 128 := by omega
theorem b8 (r0 r1 r2 r3 r4 r5 r6 r7 : Nat) (h0 : r0 < 256) (h1 : r1 < 256) (h2 : r2 < 256) (h3 : r3 < 256) (h4 : r4 < 256) (h5 : r5 < 256) (h6 : r6 < 256) (h7 : r7 < 256) :
  r0 + 256 * (r1 + 256 * (r2 + 256 * (r3 + 256 * (r4 + 256 * (r5 + 256 * (r6 + 256 * r7)))))) < 18446744073709551616 :=
 byte_lt _ _ 72057594037927936 h0 (byte_lt _ _ 281474976710656 h1 (byte_lt _ _ 1099511627776 h2 (byte_lt _ _ 4294967296 h3 (byte_lt _ _ 16777216 h4 (byte_lt _ _ 65536 h5 (byte_lt _ _ 256 h6 h7))))))
theorem b8' (r0 r1 r2 r3 r4 r5 r6 r7 : Nat) (h0 : r0 < 256) (h1 : r1 < 256) (h2 : r2 < 256) (h3 : r3 < 256) (h4 : r4 < 256) (h5 : r5 < 256) (h6 : r6 < 256) (h7 : r7 < 128) :
  r0 + 256 * (r1 + 256 * (r2 + 256 * (r3 + 256 * (r4 + 256 * (r5 + 256 * (r6 + 256 * r7)))))) < 9223372036854775808 :=
 byte_lt _ _ 36028797018963968 h0 (byte_lt _ _ 140737488355328 h1 (byte_lt _ _ 549755813888 h2 (byte_lt _ _ 2147483648 h3 (byte_lt _ _ 8388608 h4 (byte_lt _ _ 32768 h5 (byte_lt _ _ 128 h6 h7))))))
theorem tail_sum (v0 v1 v2 v3 v4 v5 v6 v7 : Nat) (h0 : v0 ≤ 8) (h1 : v1 ≤ 8) (h2 : v2 ≤ 8) (h3 : v3 ≤ 8) (h4 : v4 ≤ 8) (h5 : v5 ≤ 8) (h6 : v6 ≤ 8) (h7 : v7 ≤ 8)
  (a b c z : Nat) (hz : z = v0 + 256 * (v1 + 256 * (v2 + 256 * (v3 + 256 * (v4 + 256 * (v5 + 256 * (v6 + 256 * v7)))))))
  (ha : a = z + z / 256) (hb : b = a + a / 65536) (hc : c = b + b / 4294967296) : a < 18446744073709551616 ∧ b < 18446744073709551616 ∧ c < 9223372036854775808 ∧ c % 128 = v0 + (v1 + (v2 + (v3 + (v4 + (v5 + (v6 + v7)))))) := by
 have n : ∀ {v : Nat}, v ≤ 8 → v < 256 := fun h => Nat.lt_of_le_of_lt h (by decide)
 have e1 : z / 256 = v1 + 256 * (v2 + 256 * (v3 + 256 * (v4 + 256 * (v5 + 256 * (v6 + 256 * v7))))) := by rw [hz]; exact div_byte _ _ (n h0)
 have ea : a = (v0 + v1) + 256 * ((v1 + v2) + 256 * ((v2 + v3) + 256 * ((v3 + v4) + 256 * ((v4 + v5) + 256 * ((v5 + v6) + 256 * ((v6 + v7) + 256 * v7)))))) := by
  rw [ha, e1, hz]; simp only [Nat.mul_add]; ac_rfl
 have e2 : a / 65536 = (v2 + v3) + 256 * ((v3 + v4) + 256 * ((v4 + v5) + 256 * ((v5 + v6) + 256 * ((v6 + v7) + 256 * v7)))) := by rw [ea]; exact div2 _ _ _ (L2 h0 h1) (L2 h1 h2)
 have eb : b = (v0 + v1 + (v2 + v3)) + 256 * ((v1 + v2 + (v3 + v4)) + 256 * ((v2 + v3 + (v4 + v5)) + 256 * ((v3 + v4 + (v5 + v6)) + 256 * ((v4 + v5 + (v6 + v7)) + 256 * ((v5 + v6 + v7) + 256 * ((v6 + v7) + 256 * v7)))))) := by
  rw [hb, e2, ea]; simp only [Nat.mul_add]; ac_rfl
 have e3 : b / 4294967296 = (v4 + v5 + (v6 + v7)) + 256 * ((v5 + v6 + v7) + 256 * ((v6 + v7) + 256 * v7)) := by rw [eb]; exact div4 _ _ _ _ _ (L4 h0 h1 h2 h3) (L4 h1 h2 h3 h4) (L4 h2 h3 h4 h5) (L4 h3 h4 h5 h6)
 have ec : c = (v0 + v1 + (v2 + v3) + (v4 + v5 + (v6 + v7))) + 256 * ((v1 + v2 + (v3 + v4) + (v5 + v6 + v7)) + 256 * ((v2 + v3 + (v4 + v5) + (v6 + v7)) + 256 * ((v3 + v4 + (v5 + v6) + v7) + 256 * ((v4 + v5 + (v6 + v7)) + 256 * ((v5 + v6 + v7) + 256 * ((v6 + v7) + 256 * v7)))))) := by
  rw [hc, e3, eb]; simp only [Nat.mul_add]; ac_rfl
 clear e1 e2 e3 hz ha hb hc;refine ⟨?_, ?_, ?_, ?_⟩
 ·rw [ea]; exact b8 _ _ _ _ _ _ _ _ (L2 h0 h1) (L2 h1 h2) (L2 h2 h3) (L2 h3 h4) (L2 h4 h5) (L2 h5 h6) (L2 h6 h7) (n h7)
 ·rw [eb]; exact b8 _ _ _ _ _ _ _ _ (L4 h0 h1 h2 h3) (L4 h1 h2 h3 h4) (L4 h2 h3 h4 h5) (L4 h3 h4 h5 h6) (L4 h4 h5 h6 h7) (L3 h5 h6 h7) (L2 h6 h7) (n h7)
 ·rw [ec]; clear ea eb ec;exact b8' _ _ _ _ _ _ _ _ (Nat.lt_trans (L8 h0 h1 h2 h3 h4 h5 h6 h7) (by decide)) (by omega) (by omega) (by omega) (L4 h4 h5 h6 h7) (L3 h5 h6 h7) (L2 h6 h7) (Nat.lt_of_le_of_lt h7 (by decide))
 ·rw [ec, mod_byte _ _ (L8 h0 h1 h2 h3 h4 h5 h6 h7)]; ac_rfl
theorem ones (x : Nat) (h : x < 18446744073709551616) (z a b c : Nat) (hz : z = z3 (z2 (z1 x))) (ha : a = z + z / 256) (hb : b = a + a / 65536) (hc : c = b + b / 4294967296) :
  a < 18446744073709551616 ∧ b < 18446744073709551616 ∧ c < 9223372036854775808 ∧ c % 128 = cnt x := by
 rw [cnt_pc, pc_bytes];rw [z_eq x h] at hz;refine tail_sum _ _ _ _ _ _ _ _ (pc_le 8 _) (pc_le 8 _) (pc_le 8 _) (pc_le 8 _) (pc_le 8 _) (pc_le 8 _) (pc_le 8 _) (pc_le 8 _) a b c z ?_ ha hb hc;rw [hz]; rfl
/-! The mask of a list of numbers, with its error. -/
theorem drop_at {l : List Int} {j : Nat} (h : j < l.length) : l.drop j = (l[j]?.getD 0) :: l.drop (j + 1) := by
 rw [List.drop_eq_getElem_cons h]; simp [h]
theorem or_lt {a b : Nat} (ha : a < 18446744073709551616) (hb : b < 18446744073709551616) : a ||| b < 18446744073709551616 := Nat.or_lt_two_pow (n := 64) ha hb
/-! Sets of units: those of one without those of another; counting. -/
def sub (a b : Nat) : Nat := a ^^^ (a &&& b)
theorem testBit_sub (a b i : Nat) : (sub a b).testBit i = (a.testBit i && !b.testBit i) := by
 unfold sub; rw [Nat.testBit_xor, Nat.testBit_and]; cases a.testBit i <;> cases b.testBit i <;> rfl
theorem sub_lt {a : Nat} (b : Nat) (h : a < 18446744073709551616) : sub a b < 18446744073709551616 := lt_of_bits fun i hi => by
 rw [testBit_sub] at hi;simp at hi;exact bits_lt h hi.1
theorem units_nodup (x : Nat) : (units x).Nodup := (units_sorted x).imp (fun h => Nat.ne_of_lt h)
theorem units_rest (x s : Nat) : units (sub x (low x s)) = (units x).drop s := by
 refine eq_of_sorted _ _ (units_sorted _) ((units_sorted x).sublist (List.drop_sublist s _)) fun k => ?_
 rw [units_mem, testBit_sub];unfold low;rw [testBit_ofu];have hnd := units_nodup x;have hm := @units_mem x k;rw [← List.take_append_drop s (units x)] at hnd hm;have hd := (List.nodup_append.1 hnd).2.2;rw [List.mem_append] at hm;constructor
 ·rintro ⟨h1, h2⟩;simp at h2;rcases hm.2 ⟨h1, h2.1⟩ with h | h
  ·exact absurd h h2.2
  ·exact h
 ·intro h;obtain ⟨h1, h2⟩ := hm.1 (.inr h);refine ⟨h1, ?_⟩;have : ¬ k ∈ (units x).take s := fun h' => hd _ h' _ h rfl
  simp [h2, this]
theorem cnt_rest (x s : Nat) : cnt (sub x (low x s)) = cnt x - s := by
 unfold cnt; rw [units_rest, List.length_drop]
end Go.Proofs.YtkkkhonjcbhelaaGreatDoor.MM
namespace Go.Proofs.YtkkkhonjcbhelaaGreatDoor
open Go.RowKit
theorem and_u64 (a b : Nat) (ha : a < 18446744073709551616) (hb : b < 18446744073709551616) : bits .and .u64 (a : Int) (b : Int) = ((a &&& b : Nat) : Int) := bits_and_u64_nat a b ha hb
theorem or_u64 (a b : Nat) (ha : a < 18446744073709551616) (hb : b < 18446744073709551616) : bits .or .u64 (a : Int) (b : Int) = ((a ||| b : Nat) : Int) := bits_or_u64_nat a b ha hb
theorem u64_nat (a : Nat) (ha : a < 18446744073709551616) : IntKind.u64.wrap (a : Int) = (a : Int) := by rw [IntKind.wrap_u64]; omega
theorem not_u64 (a b : Nat) (ha : a < 18446744073709551616) (hb : b < 18446744073709551616) : bits .andNot .u64 (a : Int) (b : Int) = ((MM.sub a b : Nat) : Int) := by
 have h1 : (BitVec.ofInt 64 (a : Int)).toNat = a := by
  rw [BitVec.ofInt_natCast, BitVec.toNat_ofNat]; exact Nat.mod_eq_of_lt (by omega)
 have h2 : (BitVec.ofInt 64 (b : Int)).toNat = b := by
  rw [BitVec.ofInt_natCast, BitVec.toNat_ofNat]; exact Nat.mod_eq_of_lt (by omega)
 show IntKind.u64.wrap ((BitVec.ofInt 64 (a : Int) &&& ~~~ BitVec.ofInt 64 (b : Int)).toNat : Int) = _;have e : a &&& (2 ^ 64 - 1 - b) = MM.sub a b := by
  apply Nat.eq_of_testBit_eq;intro i;rw [MM.testBit_sub, Nat.testBit_and, show 2 ^ 64 - 1 - b = 2 ^ 64 - (b + 1) from by omega, Nat.testBit_two_pow_sub_succ (by omega)]
  cases hh : a.testBit i
  ·rfl
  ·have := MM.bits_lt ha hh;simp [this]
 rw [BitVec.toNat_and, BitVec.toNat_not, h1, h2, e];exact u64_nat _ (MM.sub_lt b ha)
theorem k1 (x : Nat) (h : x < 18446744073709551616) : IntKind.u64.wrap (bits BinOp.and IntKind.u64 ((x : Int) / 2) 6148914691236517205 + bits BinOp.and IntKind.u64 (x : Int) 6148914691236517205) = ((MM.z1 x : Nat) : Int) := by
 have hz := (MM.z_lt x h).1;have e1 : bits BinOp.and IntKind.u64 ((x : Int) / 2) 6148914691236517205 = ((x / 2 &&& 6148914691236517205 : Nat) : Int) := and_u64 (x / 2) 6148914691236517205 (by omega) (by decide);have e2 : bits BinOp.and IntKind.u64 (x : Int) 6148914691236517205 = ((x &&& 6148914691236517205 : Nat) : Int) := and_u64 x 6148914691236517205 h (by decide);rw [e1, e2, ← Int.natCast_add];exact u64_nat _ hz
theorem k2 (x : Nat) (h : x < 18446744073709551616) : IntKind.u64.wrap (bits BinOp.and IntKind.u64 ((MM.z1 x : Int) / 4) 3689348814741910323 + bits BinOp.and IntKind.u64 (MM.z1 x : Int) 3689348814741910323) = ((MM.z2 (MM.z1 x) : Nat) : Int) := by
 obtain ⟨h1, hz, _⟩ := MM.z_lt x h;have e1 : bits BinOp.and IntKind.u64 ((MM.z1 x : Int) / 4) 3689348814741910323 = ((MM.z1 x / 4 &&& 3689348814741910323 : Nat) : Int) := and_u64 (MM.z1 x / 4) 3689348814741910323 (by omega) (by decide);have e2 : bits BinOp.and IntKind.u64 (MM.z1 x : Int) 3689348814741910323 = ((MM.z1 x &&& 3689348814741910323 : Nat) : Int) := and_u64 (MM.z1 x) 3689348814741910323 h1 (by decide);rw [e1, e2, ← Int.natCast_add];exact u64_nat _ (Nat.lt_trans hz (by decide))
theorem k3 (y : Nat) (h : y < 9223372036854775808) : bits BinOp.and IntKind.u64 (IntKind.u64.wrap ((y : Int) / 16 + (y : Int))) 1085102592571150095 = ((MM.z3 y : Nat) : Int) := by
 have e : IntKind.u64.wrap ((y : Int) / 16 + (y : Int)) = ((y / 16 + y : Nat) : Int) := u64_nat (y / 16 + y) (by omega);rw [e];exact and_u64 (y / 16 + y) 1085102592571150095 (by omega) (by decide)
theorem k4 (z d a : Nat) (h : a < 18446744073709551616) (e : a = z + z / d) : IntKind.u64.wrap ((z : Int) + (z : Int) / (d : Int)) = ((a : Nat) : Int) := by
 subst e;exact u64_nat (z + z / d) h
theorem and_i64 (a b : Nat) (ha : a < 9223372036854775808) (hb : b < 9223372036854775808) : bits .and .i64 (a : Int) (b : Int) = ((a &&& b : Nat) : Int) := by
 have hx : a &&& b < 9223372036854775808 := Nat.lt_of_le_of_lt Nat.and_le_left ha;have h1 : (BitVec.ofInt 64 (a : Int)).toNat = a := by
  rw [BitVec.ofInt_natCast, BitVec.toNat_ofNat]; exact Nat.mod_eq_of_lt (by omega)
 have h2 : (BitVec.ofInt 64 (b : Int)).toNat = b := by
  rw [BitVec.ofInt_natCast, BitVec.toNat_ofNat]; exact Nat.mod_eq_of_lt (by omega)
 show IntKind.i64.wrap ((BitVec.ofInt 64 (a : Int) &&& BitVec.ofInt 64 (b : Int)).toNat : Int) = _;rw [BitVec.toNat_and, h1, h2];exact IntWalk.i64_in _ (by omega)
theorem k5 (c : Nat) (h : c < 9223372036854775808) : bits BinOp.and IntKind.i64 (wrap64 (c : Int)) 127 = ((c % 128 : Nat) : Int) := by
 have e : wrap64 (c : Int) = (c : Int) := IntWalk.wrap64_in _ (by omega);rw [e, show (127 : Int) = ((127 : Nat) : Int) from rfl, and_i64 c 127 h (by decide)];rw [show (127 : Nat) = 2 ^ 7 - 1 from rfl, Nat.and_two_pow_sub_one_eq_mod]
set_option maxHeartbeats 400000 in
theorem ones_any (x : Nat) (hx : x < 18446744073709551616) (w : World) :
  Calls Tryz.prog 101 #[.int .u64 x] w fun e w' => e = .returned (.int .i64 (MM.cnt x)) ∧ w = w' := by
 obtain ⟨a, ha⟩ : ∃ a, a = MM.z3 (MM.z2 (MM.z1 x)) + MM.z3 (MM.z2 (MM.z1 x)) / 256 := ⟨_, rfl⟩
 obtain ⟨b, hb⟩ : ∃ b, b = a + a / 65536 := ⟨_, rfl⟩
 obtain ⟨c, hc⟩ : ∃ c, c = b + b / 4294967296 := ⟨_, rfl⟩
 obtain ⟨l1, l2, l3, l4⟩ := MM.ones x hx _ a b c rfl ha hb hc;have q1 := k1 x hx;have q2 := k2 x hx;have q3 := k3 _ (MM.z_lt x hx).2.1;have q4 : IntKind.u64.wrap ((MM.z3 (MM.z2 (MM.z1 x)) : Int) + (MM.z3 (MM.z2 (MM.z1 x)) : Int) / 256) = (a : Int) := k4 _ 256 a l1 ha;have q5 : IntKind.u64.wrap ((a : Int) + (a : Int) / 65536) = (b : Int) := k4 _ 65536 b l2 hb;have q6 : IntKind.u64.wrap ((b : Int) + (b : Int) / 4294967296) = (c : Int) := k4 _ 4294967296 c (Nat.lt_trans l3 (by decide)) hc;have q7 := k5 c l3;rw [l4] at q7;clear ha hb hc l1 l2 l3 l4;have Q : Hid (_ ∧ _ ∧ _ ∧ _ ∧ _ ∧ _ ∧ _) := ⟨q1, q2, q3, q4, q5, q6, q7⟩
 clear q1 q2 q3 q4 q5 q6 q7;go_enter Tryz.func101, Tryz.ntmps101;go_wp2;obtain ⟨q1, q2, q3, q4, q5, q6, q7⟩ := Q.out;simp only [q1, q2, q3, q4, q5, q6, q7]
 go_ret
 exact ⟨rfl, rfl⟩
theorem count_any (x : Nat) (hx : x < 18446744073709551616) (w : World) :
  Calls Tryz.prog 86 #[.int .u64 x] w fun e w' => e = .returned (.int .i64 (MM.cnt x)) ∧ w = w' := by
 go_enter Tryz.func86, Tryz.ntmps86;go_wp2_with (go_at_call 101; refine (ones_any x hx _).mono ?_; rintro e w' ⟨rfl, rfl⟩)
 go_ret
 exact ⟨rfl, rfl⟩
theorem pow_lt {k : Nat} (hk : k < 64) : 2 ^ k < 18446744073709551616 := Nat.pow_lt_pow_right (a := 2) (by decide) hk
end Go.Proofs.YtkkkhonjcbhelaaGreatDoor
namespace Go.Proofs.YtkkkhonjcbhelaaGreatDoor
open Go.RowKit
def Tab (w : World) : Prop := ∀ j, j < Lib.deBruijn64tab.length → w.cell? ⟨0, j, none⟩ = some (.int .u8 (Lib.deBruijn64tab.getD j 0))
theorem bit_any (k : Nat) (hk : k < 64) (w : World) :
  Calls Tryz.prog 88 #[.int .i64 k] w fun e w' => e = .returned (.int .u64 ((2 ^ k : Nat) : Int)) ∧ w = w' := by
 have hw : IntKind.u64.wrap (2 ^ k) = ((2 ^ k : Nat) : Int) := by
  have := u64_nat (2 ^ k) (pow_lt hk);rw [← this]; simp
 have H := Lib.hid hw;clear hw;go_enter Tryz.func88, Tryz.ntmps88;go_wp2;simp only [H.out]
 go_ret
 exact ⟨rfl, rfl⟩
/-! The lowest unit. -/
theorem tz_key (x a : Nat) (hx : x < 18446744073709551616) (hx0 : x ≠ 0) (hlow : x &&& (18446744073709551616 - x) = a) :
  IntKind.u64.wrap (bits BinOp.and IntKind.u64 (x : Int) (IntKind.u64.wrap (-(x : Int))) * 285870213051353865) / 288230376151711744 = ((a * 285870213051353865 % 18446744073709551616 / 288230376151711744 : Nat) : Int) := by
 have e1 : IntKind.u64.wrap (-(x : Int)) = ((18446744073709551616 - x : Nat) : Int) := by rw [IntKind.wrap_u64]; omega
 rw [e1, bits_and_u64_nat x _ hx (by omega), hlow, IntKind.wrap_u64];omega
set_option maxHeartbeats 1000000 in
theorem tz_core (x k idx : Nat) (w : World) (hx0 : ((x : Int) == 0) = false)
  (key : IntKind.u64.wrap (bits BinOp.and IntKind.u64 (x : Int) (IntKind.u64.wrap (-(x : Int))) * 285870213051353865) / 288230376151711744 = (idx : Int))
  (hi : idx < 64) (hk : k < 64) (hcell : w.cell? ⟨0, idx, none⟩ = some (.int .u8 k)) :
  Calls Tryz.prog 83 #[.int .u64 x] w fun e w' => e = .returned (.int .i64 k) ∧ w = w' := by
 go_enter Tryz.func83, Tryz.ntmps83;go_wp2_with (simp only [key])
 go_ret
 exact ⟨rfl, rfl⟩
theorem tz_any (x : Nat) (h0 : x ≠ 0) (hx : x < 18446744073709551616) (w : World) (hT : Tab w) :
  Calls Tryz.prog 83 #[.int .u64 x] w fun e w' => e = .returned (.int .i64 (Lib.ctz 64 x)) ∧ w = w' := by
 obtain ⟨hlow, hk⟩ := Lib.lowest_bit 64 x h0 hx;obtain ⟨hi, htab⟩ := Lib.deBruijn64_at _ hk;have hcell := hT _ hi;rw [htab] at hcell;exact tz_core x _ _ w (by simp; omega) (tz_key x _ hx h0 hlow) hi hk hcell
end Go.Proofs.YtkkkhonjcbhelaaGreatDoor
namespace Go.Proofs.YtkkkhonjcbhelaaGreatDoor
open Go.RowKit Go.Shelf
attribute [local go_sem] Oper.semAt_some
theorem Tab.below {n₀ : Nat} {A B : World} (h : Below n₀ A B) (h0 : 0 < n₀) (hT : Tab A) : Tab B :=
 fun j hj => (h.cell (p := ⟨0, j, none⟩) h0).trans (hT j hj)
theorem rest_key (x : Nat) (h0 : x ≠ 0) (hx : x < 18446744073709551616) : bits BinOp.and IntKind.u64 (x : Int) ((x : Int) - 1) = ((x &&& (x - 1) : Nat) : Int) := by
 have e : (x : Int) - 1 = ((x - 1 : Nat) : Int) := by omega
 rw [e];exact and_u64 _ _ hx (by omega)
set_option maxHeartbeats 1000000 in
theorem rising_any (x n : Nat) (w : World) :
  CallsIn Fence.wide n Tryz.prog 87 #[.int .u64 x] w fun e w' => e = .returned (.func (.func 102) #[] #[.pointer (some ⟨w.heap.size, 0, none⟩)]) ∧ w.alloc (.cells #[.int .u64 x] 59) = w' := by
 refine callsIn_of_wp Tryz.func87 rfl trivial ?_ rfl;simp only [Tryz.ntmps87, List.size_toArray, List.length_cons, List.length_nil, Nat.reduceAdd, Nat.reduceSub, Array.replicate_succ, Array.replicate_zero, List.push_toArray, List.append_toArray, List.nil_append, List.cons_append]
 gi_wp2
 go_ret
 exact ⟨rfl, rfl⟩
abbrev U : Type := { k : Nat // k < 64 }
def vals (l : List U) : List Nat := l.map (·.1)
theorem vals_snoc (l : List U) (k : U) : vals (l ++ [k]) = vals l ++ [k.1] := by simp [vals]
theorem vals_len (l : List U) : (vals l).length = l.length := by simp [vals]
theorem vals_lt {l : List U} : ∀ j ∈ vals l, j < 64 := fun j hj => by
 obtain ⟨a, _, rfl⟩ := List.mem_map.1 hj;exact a.2
def left (v : Value) : Nat := match v with | .int _ n => MM.cnt n.toNat | _ => 0
theorem left_nat (r : Nat) : left (.int .u64 r) = MM.cnt r := by simp [left]
set_option maxRecDepth 100000 in
set_option maxHeartbeats 1000000 in
theorem rise_in (n : Nat) (hn : 1 ≤ n) (l Bn n₀ : Nat) (hn₀ : 0 < n₀) (x : Nat) (hx : x < 18446744073709551616) (J Jx : List U → World → Prop)
  (hY : ∀ pre (k : U) W, J pre W → pre.length < (MM.units x).length → YieldAt Fence.wide (n - 1) Tryz.prog l #[.int .i64 (k.1 : Nat)] W fun e W' =>
   (e = .returned (.bool true) ∧ J (pre ++ [k]) W' ∧ Below n₀ W W') ∨ (e = .returned (.bool false) ∧ Jx (pre ++ [k]) W'))
  (W : World) (hBn : W.cell? ⟨Bn, 0, none⟩ = some (.int .u64 x)) (hT : Tab W) (h0 : J [] W) :
  CallsIn Fence.wide n Tryz.prog 102 #[.func (.yield l) #[] #[], .pointer (some ⟨Bn, 0, none⟩)] W fun e W' => (∃ v, e = .returned v) ∧
   ((∃ ys, vals ys = MM.units x ∧ J ys W') ∨ (∃ pre, vals pre <+: MM.units x ∧ Jx pre W')) := by
 refine callsIn_of_wp Tryz.func102 rfl trivial ?_ rfl;simp only [Tryz.ntmps102, List.size_toArray, List.length_cons, List.length_nil, Nat.reduceAdd, Nat.reduceSub, Array.replicate_succ, Array.replicate_zero, List.push_toArray, List.append_toArray, List.nil_append, List.cons_append]
 gi_wp2
 gi_loopw [3] (fun p wr => ∃ (pre : List U) (r : Nat), p = .int .u64 (r : Nat) ∧ r < 18446744073709551616 ∧ MM.units x = vals pre ++ MM.units r ∧ Tab wr ∧ J pre wr)
  (fun p _ => left p)
 case atStart =>
  exact ⟨[], x, rfl, hx, rfl, hT, h0⟩
 case round =>
  obtain ⟨pre, r, rfl, hr, hpre, hTr, hJs⟩ := hrel;by_cases hr0 : r = 0
  ·subst hr0;have hpre' := Lib.hid hpre;clear hpre
   gi_wp2
   go_end0
   refine ⟨⟨_, rfl⟩, .inl ⟨pre, ?_, hJs⟩⟩;rw [hpre'.out, MM.units_zero, List.append_nil]
  ·have hst := MM.units_step hr0 hr;have hlen : pre.length < (MM.units x).length := by rw [hpre, hst, List.length_append, vals_len]; simp
   obtain ⟨fn, tmps, assign, body, hy, hR⟩ := hY pre ⟨Lib.ctz 64 r, MM.ctz_lt hr0 hr⟩ wr hJs hlen;dsimp only at hy;have hne : (((r : Int)) != 0) = true := by simp; omega
   have hk := rest_key r hr0 hr;have hst' := Lib.hid hst;have hpre' := Lib.hid hpre;have hk' := Lib.hid hk;clear hst hpre hk hlen;have htz := Lib.hid (tz_any r hr0 hr wr hTr)
   gi_wp2_with (refine ⟨trivial, ?_⟩; gi_at_call 83; refine (callsIn_wide.2 htz.out).mono ?_; rintro e w' ⟨rfl, rfl⟩)
   refine hR.mono ?_;rintro e W3 (⟨rfl, hJ3, hk3⟩ | ⟨rfl, hJx3⟩)
   ·have hT3 : Tab W3 := hTr.below hk3 hn₀
    gi_wp2
    rw [hk'.out];refine ⟨⟨pre ++ [⟨Lib.ctz 64 r, MM.ctz_lt hr0 hr⟩], r &&& (r - 1), rfl, MM.and_lt _ _ hr, by rw [hpre'.out, hst'.out, vals_snoc]; simp, hT3, hJ3⟩, ?_⟩;have e1 : MM.cnt r = MM.cnt (r &&& (r - 1)) + 1 := by unfold MM.cnt; rw [hst'.out]; simp
    rw [left_nat r, left_nat (r &&& (r - 1))];omega
   ·gi_wp2
    refine bodyPost_ret (results_none rfl _ _ _) rfl ?_;refine ⟨⟨_, rfl⟩, .inr ⟨pre ++ [⟨Lib.ctz 64 r, MM.ctz_lt hr0 hr⟩], ?_, hJx3⟩⟩;rw [hpre'.out, hst'.out, vals_snoc];exact ⟨MM.units (r &&& (r - 1)), by simp⟩
theorem rise_stops (n : Nat) (hn : 1 ≤ n) (Bn n₀ : Nat) (h0 : 0 < n₀) (x : Nat) (hx : x < 18446744073709551616) (w : World) (hBn : Bn < w.heap.size)
  (hc : w.cell? ⟨Bn, 0, none⟩ = some (.int .u64 x)) (hT : Tab w) :
  SeqStopsK Fence.wide n Tryz.prog 102 #[.pointer (some ⟨Bn, 0, none⟩)] (fun k : U => #[Value.int .i64 ((k.1 : Nat) : Int)]) (Below n₀) (fun ys => vals ys = MM.units x) (fun pre => vals pre <+: MM.units x) (MM.units x).length w := fun l J Jx W hW _ _ hY hJ =>
 rise_in n hn l Bn n₀ h0 x hx J Jx hY W ((hW.cell (p := ⟨Bn, 0, none⟩) hBn).trans hc) (hT.below hW (by omega)) hJ
end Go.Proofs.YtkkkhonjcbhelaaGreatDoor
namespace Go.Proofs.YtkkkhonjcbhelaaGreatDoor
open Go.RowKit Go.Shelf
attribute [local go_sem] Oper.semAt_some
theorem Below.drewN {B : Nat} {a w : World} (h : Below B a w) (q : Nat) : Below B a (w.drewN q) := ⟨h.os, h.tape, h.output, h.size, h.block⟩
set_option maxRecDepth 100000 in
set_option maxHeartbeats 2000000 in
theorem lowest_any (x : Nat) (hx : x < 18446744073709551616) (k : Nat) (hk : k ≤ MM.cnt x) (w : World) (hT : Tab w) (h0 : 0 < w.heap.size) :
  Calls Tryz.prog 79 #[.int .u64 x, .int .i64 k] w fun e w' => e = .returned (.tuple #[.int .u64 (MM.low x k), .int .i64 0]) ∧ Below w.heap.size w w' := by
 have h64 := MM.cnt_le x;have h1 : (1 : Nat) ≤ 8 := by omega
 have h1' : (1 : Nat) ≤ 8 - 1 := by omega
 have hd : decide ((MM.cnt x : Int) < (k : Int)) = false := by simpa using hk
 have hfn : ∀ f, Fence.wide.fn f := fun _ => trivial
 have hc : ∀ w, Calls Tryz.prog 86 #[.int .u64 x] w fun e w' => e = .returned (.int .i64 (MM.cnt x)) ∧ w' = w := fun w => (count_any x hx w).mono fun e w' h => ⟨h.1, h.2.symm⟩
 have hmx : Tryz.prog.follows .mixedOrders = true := by kernel_rfl
 refine (callsIn_wide (n := 8)).1 ?_;refine callsIn_of_wp_marks Tryz.func79 rfl trivial ?_ rfl;simp only [Tryz.ntmps79, List.size_toArray, List.length_cons, List.length_nil, Nat.reduceAdd, Nat.reduceSub, Array.replicate_succ, Array.replicate_zero, List.push_toArray, List.append_toArray, List.nil_append, List.cons_append]
 gi_wp2
 gi_quiet ((gi_at_call 86; exact CallsIn.quiet_of_same (callsIn_wide.2 (hc _))))
 all_goals gi_wp2_with (gi_at_call 87; refine (rising_any _ _ _).mono ?_; rintro e w' ⟨rfl, rfl⟩)
 all_goals (try go_bits)
 have hW0 : ∃ W0, ((((w.alloc (Obj.cells #[Value.int IntKind.i64 (k : Int)] 3)).drewN nq).alloc (Obj.cells #[Value.int IntKind.u64 0] 59)).alloc (Obj.cells #[Value.int IntKind.u64 (x : Int)] 59)) = W0 := ⟨_, rfl⟩
 obtain ⟨W0, hW0⟩ := hW0;have b0 : Boxed W0 w.heap.size 3 (.int .i64 (k : Int)) := by
  rw [← hW0]; exact Boxed.alloc (Boxed.alloc (show Boxed ((w.alloc _).drewN nq) w.heap.size _ _ from Boxed.new w _ _) _) _
 have b1 : Boxed W0 (w.heap.size + 1) 59 (.int .u64 0) := by
  rw [← hW0];have := Boxed.new ((w.alloc (Obj.cells #[Value.int IntKind.i64 (k : Int)] 3)).drewN nq) 59 (.int .u64 0);rw [World.heap_drewN, World.size_alloc] at this;exact this.alloc _
 have b2 : Boxed W0 (w.heap.size + 1 + 1) 59 (.int .u64 (x : Int)) := by
  rw [← hW0];have := Boxed.new (((w.alloc (Obj.cells #[Value.int IntKind.i64 (k : Int)] 3)).drewN nq).alloc (Obj.cells #[Value.int IntKind.u64 0] 59)) 59 (.int .u64 (x : Int));rw [World.size_alloc, World.heap_drewN, World.size_alloc] at this;exact this
 have hB0 : Below w.heap.size w W0 := by
  rw [← hW0];exact ((Below.drewN ((Below.refl _ w).alloc (Nat.le_refl _) _) nq).alloc (by simp) _).alloc (by simp; omega) _
 have hz : W0.heap.size = w.heap.size + 1 + 1 + 1 := by
  rw [← hW0, World.size_alloc, World.size_alloc, World.heap_drewN, World.size_alloc]
 have hT0 : Tab W0 := hT.below hB0 h0;rw [hW0];clear hW0;refine wpIn_rangeFunc_ownF rfl h1 (gf := 102) (lb := #[.pointer (some ⟨w.heap.size + 1 + 1, 0, none⟩)]) rfl trivial (enters_of Tryz.func102 (by kernel_rfl) rfl)
  (rise_stops (8 - 1) h1' (w.heap.size + 1 + 1) w.heap.size h0 x hx W0 (by omega) b2.cell hT0) belowK_t (belowK_b (by omega)) (Below.refl _ _) (fun _ => rfl)
  (fun (pre : List U) W => (pre.length ≤ k ∧ Boxed W w.heap.size 3 (.int .i64 ((k - pre.length : Nat) : Int)) ∧ Boxed W (w.heap.size + 1) 59 (.int .u64 (MM.ofu (vals pre)))) ∧ Below w.heap.size w W)
  (fun c pre W => (c = .exit 0 ∧ ∃ p y, pre = p ++ [y] ∧ p.length = k ∧ Boxed W (w.heap.size + 1) 59 (.int .u64 (MM.ofu (vals p)))) ∧ Below w.heap.size w W)
  (OwnFrom.and (Own.from (fun s A B row hs hg hr => ⟨hs.1, boxed_own _ _ _ _ _ _ _ hs.2.1 hg hr, boxed_own _ _ _ _ _ _ _ hs.2.2 hg hr⟩) _) (ownFrom_below (Nat.le_refl _) (by omega)))
  (fun c => OwnFrom.and (Own.from (fun s A B row hs hg hr => by
   obtain ⟨hc, p, y, hp, hl, hb⟩ := hs;exact ⟨hc, p, y, hp, hl, boxed_own _ _ _ _ _ _ _ hb hg hr⟩) _) (ownFrom_below (Nat.le_refl _) (by omega)))
  ⟨⟨Nat.zero_le _, b0, b1⟩, hB0⟩
  (fun (y : U) => { tmps := #[.int .u64 x, .int .i64 k, undef, .pointer (some ⟨w.heap.size, 0, none⟩), .int .u64 0, .int .i64 0, .pointer (some ⟨w.heap.size + 1, 0, none⟩), .int .i64 (y.1 : Nat), .int .i64 k, .bool (decide ((k : Int) < 0)), .int .u64 x, .int .i64 (MM.cnt x), .int .i64 k, .bool false, .int .u64 x,
   .func (.func 102) #[] #[.pointer (some ⟨w.heap.size + 1 + 1, 0, none⟩)], .int .i64 (y.1 : Nat), undef, undef, undef, undef, undef, undef, undef, undef, undef], defers := [] }) ?assign ?body ?done ?stop
 case assign =>
  intro l y W K hK
  gi_wp2
  exact hK
 case body =>
  rintro l pre y W ⟨⟨hle, hb0, hb1⟩, hB⟩ _;have hc0 := hb0.cell;have hf0 := hb0.frozen;have hc1 := hb1.cell;have hf1 := hb1.frozen;by_cases he : pre.length = k
  ·have ht : (((k - pre.length : Nat) : Int) == 0) = true := by rw [he]; simp
   have hb1' := Lib.hid hb1;have hB' := Lib.hid hB;clear hb0 hb1 hB hle hfn hmx hd hc;have he' := Lib.hid he;clear he
   gi_wp2
   exact ⟨KeepsOthers.refl _, ⟨rfl, pre, y, rfl, he'.out, hb1'.out⟩, hB'.out⟩
  ·have hlt : pre.length < k := (by omega);have ht : (((k - pre.length : Nat) : Int) == 0) = false := by simp; omega
   have hsub : ((k - pre.length : Nat) : Int) - 1 = ((k - (pre.length + 1) : Nat) : Int) := (by omega);have hor : bits BinOp.or IntKind.u64 (MM.ofu (vals pre) : Int) (2 ^ y.1) = ((MM.ofu (vals (pre ++ [y])) : Nat) : Int) := by
    rw [vals_snoc, MM.ofu_snoc, ← or_u64 (MM.ofu (vals pre)) (2 ^ y.1) (MM.ofu_lt vals_lt) (pow_lt y.2)]
    congr 1
   have hH := Lib.hid (And.intro hsub (And.intro hor hlt));have hb := Lib.hid (And.intro hb0 (And.intro hb1 hB));have hcb := Lib.hid (bit_any y.1 y.2);clear hb0 hb1 hB hle hd hc hsub hor he hlt;have h5 : 1 ≤ 8 - 1 - 1 := by omega
   gi_wp2
   gi_region_with_o (gi_at_call 88; refine (CallsIn.inRound l (callsIn_wide.2 (hcb.out _))).mono ?_; rintro e w' ⟨rfl, rfl⟩)
   all_goals gi_wp2
   all_goals (
    obtain ⟨hsub, hor, hlt⟩ := hH.out;obtain ⟨hb0, hb1, hB⟩ := hb.out;rw [hsub, hor];refine ⟨((KeepsOthers.setCell _ _ _).trans (KeepsOthers.setCell _ _ _)).trans (KeepsOthers.drew _), (((Below.refl w.heap.size W).setCell (p := ⟨w.heap.size + 1, 0, none⟩) (by simp) _).setCell (p := ⟨w.heap.size, 0, none⟩) (Nat.le_refl _) _).drew, ⟨by simp; omega, ?_, ?_⟩, ((hB.setCell (p := ⟨w.heap.size + 1, 0, none⟩) (by simp) _).setCell (p := ⟨w.heap.size, 0, none⟩) (Nat.le_refl _) _).drew⟩
    ·have := (hb0.other (B' := w.heap.size + 1) (by omega) (.int .u64 (MM.ofu (vals (pre ++ [y])) : Nat))).set (.int .i64 ((k - (pre.length + 1) : Nat) : Int));rw [List.length_append];exact this
    ·exact (hb1.set (.int .u64 (MM.ofu (vals (pre ++ [y])) : Nat))).other (by omega) _)
 case done =>
  rintro D ys W hD hys ⟨⟨hle, hb0, hb1⟩, hB⟩ hK;have hc1 := hb1.cell;have hys' := Lib.hid hys;have hb := Lib.hid (And.intro hle (And.intro hb1 hB));clear hys hb0 hb1 hB hle hd hc
  gi_wp2
  refine ⟨by simp, .inl ⟨_, _, rfl, run_takeDeferred hK, ?_⟩⟩;obtain ⟨hle, hb1, hB⟩ := hb.out;have hys := hys'.out;have e : MM.ofu (vals ys) = MM.low x k := by
   have hl : (MM.units x).length ≤ k := by rw [← hys, vals_len]; exact hle
   unfold MM.low;rw [List.take_of_length_le hl, hys]
  rw [e];refine ⟨.tuple #[.int .u64 (MM.low x k), .int .i64 0], by simp [results, Tryz.f79, go_sem], rfl, hB.trans (belowK_b (w := w) (Nat.le_refl _) W D _ _ (by omega) hK rfl rfl)⟩
 case stop =>
  rintro D c pre W hD hpre ⟨⟨rfl, p, y, rfl, hp, hb1⟩, hB⟩ hK;have hc1 := hb1.cell;have hpre' := Lib.hid hpre;have hb := Lib.hid (And.intro hp (And.intro hb1 hB));clear hpre hb1 hB hp hd hc
  gi_wp2
  refine ⟨by simp, .inl ⟨_, _, rfl, run_takeDeferred hK, ?_⟩⟩;obtain ⟨hp, hb1, hB⟩ := hb.out;have hpre := hpre'.out;have e : MM.ofu (vals p) = MM.low x k := by
   obtain ⟨t, ht⟩ := hpre;unfold MM.low;rw [← ht, vals_snoc, List.append_assoc, List.take_append_of_le_length (by rw [vals_len]; omega), List.take_of_length_le (by rw [vals_len]; omega)]
  rw [e];refine ⟨.tuple #[.int .u64 (MM.low x k), .int .i64 0], by simp [results, Tryz.f79, go_sem], rfl, hB.trans (belowK_b (w := w) (Nat.le_refl _) W D _ _ (by omega) hK rfl rfl)⟩
end Go.Proofs.YtkkkhonjcbhelaaGreatDoor
namespace Go.Proofs.YtkkkhonjcbhelaaGreatDoor
open Go.RowKit Go.Shelf
attribute [local go_sem] Oper.semAt_some
theorem info_int : (Tryz.prog.info? 3).map (fun i => (i.zero, i.size, i.bytes)) = some (some (.int .i64 0), 1, 8) := by kernel_rfl
def ints (l : List Nat) : List Value := l.map fun k => .int .i64 (k : Nat)
end Go.Proofs.YtkkkhonjcbhelaaGreatDoor
namespace Go.Proofs.YtkkkhonjcbhelaaGreatDoor
open Go.RowKit
def Cells (w : World) (b off : Nat) (l : List Int) : Prop := ∀ i, i < l.length → w.cell? ⟨b, off + i, none⟩ = some (.int .i64 (l[i]?.getD 0))
end Go.Proofs.YtkkkhonjcbhelaaGreatDoor
namespace Go.Proofs.YtkkkhonjcbhelaaGreatDoor
open Go.ChangeShapes Go.WideShapes Go.ChangeAt Go.RowKit
theorem own : ownKnob Tryz.prog.godebug = none := by kernel_rfl
theorem laidOut : laidOutB Tryz.prog = true := by kernel_rfl
def laid1 : List (String × DataW Unit) := Rows.workerHeadRow.laid
def tabName : String := (laid1.map (·.1)).headD default
theorem gTab : Tryz.prog.globalNamed tabName = some 0 := by kernel_rfl
def tabI : List Int := Lib.deBruijn64tab.map Int.ofNat
theorem laid_tab : laid1 = [(tabName, Lib.tabData .u8 tabI)] := by kernel_rfl
theorem door_met (os : Os) (args : Array Value) : laidMetH Tryz.prog laid1 ((World.doorLaid Tryz.prog 400 os).forCall (fun _ _ => 0) ⟨#[], args, []⟩).memory :=
 laidMetH_of_parts3 (fuel := 8) (laidMet_of_run' 8 (by kernel_rfl) (by kernel_rfl)) (by kernel_rfl) (by kernel_rfl)
theorem of_laid {W : World} (h : laidMetH Tryz.prog laid1 W) : Tab W := by
 rw [MakeChecks.laidMetH_plain _ _ _ (by kernel_rfl)] at h;rw [laid_tab] at h;have h1 := Lib.tabIs_of_head gTab (show (Tryz.prog.globals[0]?).map (·.type) = some 162 by kernel_rfl) (show Tryz.prog.underlying 162 = some (.array 64 5) by kernel_rfl) (show Tryz.prog.underlying 5 = some (.int .u8) by kernel_rfl) (by kernel_rfl) (by kernel_rfl) h;intro j hj;have h2 := h1.cell gTab j (by simpa [tabI] using hj);rw [h2]
 congr 2
 simp [tabI, List.getD]
 cases Lib.deBruijn64tab[j]? <;> simp
theorem Tab.size {W : World} (h : Tab W) : 0 < W.heap.size := by
 have := h 0 (by decide);simp only [World.cell?] at this
 cases hh : W.heap[0]? with
 | none => rw [hh] at this; simp at this
 | some o => exact (Array.getElem?_eq_some_iff.1 hh).1
end Go.Proofs.YtkkkhonjcbhelaaGreatDoor
namespace Go.Proofs.YtkkkhonjcbhelaaGreatDoor
open Go.RowKit
structure Stays (w w' : World) : Prop where
 below : Below w.heap.size w w'
 tab : Tab w'
theorem Stays.of {w w' : World} (hT : Tab w) (h : Below w.heap.size w w') : Stays w w' := ⟨h, hT.below h hT.size⟩
theorem Stays.trans {a b c : World} (h : Stays a b) (k : Stays b c) : Stays a c := ⟨h.below.trans (k.below.mono h.below.size), k.tab⟩
theorem lowest_t (x : Nat) (hx : x < 18446744073709551616) (k : Nat) (hk : k ≤ MM.cnt x) (w : World) (hT : Tab w) :
  Calls Tryz.prog 79 #[.int .u64 x, .int .i64 k] w fun e w' => e = .returned (.tuple #[.int .u64 (MM.low x k), .int .i64 0]) ∧ Stays w w' ∧ Tab w' :=
 (lowest_any x hx k hk w hT hT.size).mono fun _ _ h => ⟨h.1, .of hT h.2, (Stays.of hT h.2).tab⟩
def Row (w : World) (a : Option Addr) (l : List Nat) : Prop :=
 l = [] ∨ ∃ g, a = some ⟨g, 0, none⟩ ∧ g < w.heap.size ∧ ∀ j, j < l.length → w.cell? ⟨g, j, none⟩ = some (.int .i64 ((l[j]?.getD 0 : Nat) : Int))
theorem Row.below {w w' : World} {a : Option Addr} {l : List Nat} (h : Row w a l) (b : Below w.heap.size w w') : Row w' a l := by
 rcases h with h | ⟨g, ha, hg, hc⟩
 ·exact .inl h
 ·exact .inr ⟨g, ha, Nat.lt_of_lt_of_le hg b.size, fun j hj => (b.cell (p := ⟨g, j, none⟩) hg).trans (hc j hj)⟩
theorem row_of_owns {w : World} {base : Nat} {v : Value} {l : List Nat} (h : w.ownsRow base 3 1 v l.length (ints l)) : ∃ a cap, v = .slice a l.length cap ∧ Row w a l := by
 have h' := h;rcases h.2 with ⟨rfl, h0⟩ | ⟨g, cap, cur, rfl, _, hg, _⟩
 ·rw [h0]; exact ⟨none, 0, rfl, .inl (List.length_eq_zero_iff.1 h0)⟩
 ·refine ⟨_, cap, rfl, .inr ⟨g, rfl, (Array.getElem?_eq_some_iff.1 hg).1, fun j hj => ?_⟩⟩;have := h'.cellAt j (by omega);rw [this];simp [ints, hj]
end Go.Proofs.YtkkkhonjcbhelaaGreatDoor
namespace Go.Proofs.YtkkkhonjcbhelaaGreatDoor.MM
end Go.Proofs.YtkkkhonjcbhelaaGreatDoor.MM
namespace Go.Proofs.YtkkkhonjcbhelaaGreatDoor
open Go.ChangeAt Go.RowKit
def InRow (w : World) (a : Option Addr) (l : List Int) : Prop :=
 l = [] ∨ ∃ b off, a = some ⟨b, off, none⟩ ∧ b < w.heap.size ∧ Cells w b off l
theorem lt_of_cell {w : World} {b off : Nat} {v : Value} (h : w.cell? ⟨b, off, none⟩ = some v) : b < w.heap.size := by
 simp only [World.cell?] at h
 cases hh : w.heap[b]? with
 | none => rw [hh] at h; simp at h
 | some o => exact (Array.getElem?_eq_some_iff.1 hh).1
theorem InRow.below {w w' : World} {a : Option Addr} {l : List Int} (h : InRow w a l) (hb : Below w.heap.size w w') : InRow w' a l := by
 rcases h with h | ⟨b, off, rfl, hlt, hc⟩
 ·exact .inl h
 ·exact .inr ⟨b, off, rfl, Nat.lt_of_lt_of_le hlt hb.size, fun i hi => (hb.cell (p := ⟨b, off + i, none⟩) hlt).trans (hc i hi)⟩
end Go.Proofs.YtkkkhonjcbhelaaGreatDoor
namespace Go.Proofs.YtkkkhonjcbhelaaGreatDoor
open Go.RowKit
set_option maxRecDepth 100000 in
set_option maxHeartbeats 1000000 in
theorem refbit_any (k : Nat) (hk : k < 64) (w : World) :
  Calls Tryz.prog 65 #[.int .i64 k] w fun e w' => e = .returned (.int .u64 ((2 ^ k : Nat) : Int)) ∧ w = w' := by
 obtain ⟨z, hz⟩ : ∃ z, 2 ^ k = z := ⟨_, rfl⟩
 rw [hz];go_enter Tryz.func65, Tryz.ntmps65;go_wp2
 go_loop [3, 4] (fun b i => ∃ j p : Nat, i = .int .i64 j ∧ b = .int .u64 p ∧ j ≤ k ∧ Hid (p = 2 ^ j)) (fun _ i => k - (intOf i).toNat)
 case atStart => exact ⟨0, 1, rfl, rfl, Nat.zero_le _, Lib.hid rfl⟩
 case round =>
  obtain ⟨j, p, rfl, rfl, hj, hp⟩ := hrel;by_cases hlt : j < k
  ·have hpl : p * 2 < 18446744073709551616 := by
    rw [hp.out, ← Nat.pow_succ]; exact pow_lt (k := j + 1) (by omega)
   have hpi : (p : Int) * 2 ≤ 18446744073709551615 := (by omega);clear hpl;go_wp2;exact ⟨⟨j + 1, p * 2, by go_num, by simp, by omega, Lib.hid (by rw [hp.out, Nat.pow_succ])⟩, by simp [intOf]; omega⟩
  ·obtain rfl : j = k := by omega
   have e : p = z := (by rw [hp.out, hz]);subst e;clear hz hp hlt;go_wp2
   go_ret
   exact ⟨rfl, rfl⟩
theorem bit_test (m k q : Nat) (h : q = m / 2 ^ k) : ((q : Int) % 2 == 1) = m.testBit k := by
 have e : m.testBit k = decide (q % 2 = 1) := by rw [Nat.testBit_eq_decide_div_mod_eq, h]
 rw [e, Bool.eq_iff_iff]
 simp
 omega
set_option maxRecDepth 100000 in
set_option maxHeartbeats 1000000 in
theorem has_any (m k : Nat) (hm : m < 18446744073709551616) (hk : k < 64) (w : World) :
  Calls Tryz.prog 46 #[.int .u64 m, .int .i64 k] w fun e w' => e = .returned (.bool (m.testBit k)) ∧ w = w' := by
 obtain ⟨z, hz⟩ : ∃ z, m.testBit k = z := ⟨_, rfl⟩
 rw [hz];have h64 : decide ((k : Int) < 64) = true := by simp; omega
 go_enter Tryz.func46, Tryz.ntmps46;go_wp2
 go_loop [0, 5] (fun x i => ∃ j q : Nat, i = .int .i64 j ∧ x = .int .u64 q ∧ j ≤ k ∧ q < 18446744073709551616 ∧ Hid (q = m / 2 ^ j)) (fun _ i => k - (intOf i).toNat)
 case atStart => exact ⟨0, m, rfl, rfl, Nat.zero_le _, hm, Lib.hid (by simp)⟩
 case round =>
  obtain ⟨j, q, rfl, rfl, hj, hq, hd⟩ := hrel;by_cases hlt : j < k
  ·go_wp2;exact ⟨⟨j + 1, q / 2, by go_num, by simp, by omega, by omega, Lib.hid (by rw [hd.out, Nat.div_div_eq_div_mul, Nat.pow_succ])⟩, by simp [intOf]; omega⟩
  ·obtain rfl : j = k := by omega
   have e := bit_test m j q hd.out;rw [hz] at e;clear hz hd hlt;have E := Lib.hid e;clear e;go_wp2;simp only [E.out]
   go_ret
   exact ⟨rfl, rfl⟩
end Go.Proofs.YtkkkhonjcbhelaaGreatDoor
namespace Go.Proofs.YtkkkhonjcbhelaaGreatDoor
open Go.RowKit
def upto (m j : Nat) : List Nat := (List.range j).filter fun k => m.testBit k
theorem upto_hit {m j : Nat} (h : m.testBit j = true) : upto m (j + 1) = upto m j ++ [j] := by
 unfold upto; rw [List.range_succ, List.filter_append]; simp [h]
theorem upto_miss {m j : Nat} (h : m.testBit j = false) : upto m (j + 1) = upto m j := by
 unfold upto; rw [List.range_succ, List.filter_append]; simp [h]
theorem upto_le (m j : Nat) : (upto m j).length ≤ j := by
 have := List.length_filter_le (fun k => m.testBit k) (List.range j);simpa [upto] using this
theorem upto_all (m : Nat) : upto m 64 = MM.units m := by
 refine MM.eq_of_sorted _ _ (List.Pairwise.filter _ List.pairwise_lt_range) (MM.units_sorted _) fun k => ?_
 rw [MM.units_mem];simp [upto]
set_option maxRecDepth 100000 in
set_option maxHeartbeats 2000000 in
theorem refunits_own (m : Nat) (hm : m < 18446744073709551616) (w : World) :
  Calls Tryz.prog 45 #[.int .u64 m] w fun e w' => ∃ v, e = .returned v ∧ w'.ownsRow w.heap.size 3 1 v (MM.cnt m) (ints (MM.units m)) ∧ Below w.heap.size w w' := by
 obtain ⟨i0, hi, hz0, hz1, hz2⟩ := info_parts info_int;go_enter Tryz.func45, Tryz.ntmps45;go_wp2;go_loopw [3, 4] (fun out i wr => ∃ j : Nat, i = .int .i64 j ∧ j ≤ 64 ∧ wr.ownsRow w.heap.size 3 1 out (upto m j).length (ints (upto m j)) ∧ Below w.heap.size w wr) (fun _ i _ => 64 - (intOf i).toNat)
 case atStart => exact ⟨0, rfl, by omega, World.ownsRow_nil _ _ _ _, Below.refl _ _⟩
 case round =>
  obtain ⟨j, rfl, hj, hown, hB⟩ := hrel;have hul := upto_le m j;have hBs := hB.size;by_cases hlt : j < 64
  ·have hh := has_any m j hm hlt
   cases hb : m.testBit j
   ·rw [hb] at hh;have HH := Lib.hid hh;have e := upto_miss hb;have E := Lib.hid e;clear hh hb e hul;go_wp2_with (go_at_call 46; refine (HH.out _).mono ?_; rintro e w' ⟨rfl, rfl⟩);exact ⟨⟨j + 1, by go_num, by omega, by rw [E.out]; exact hown, hB⟩, by simp [intOf]; omega⟩
   ·rw [hb] at hh;have HH := Lib.hid hh;have e := upto_hit hb;have E := Lib.hid e;clear hh hb e;go_wp2_with (first
     | (go_at_call 46; refine (HH.out _).mono ?_; rintro e w' ⟨rfl, rfl⟩)
     | (at_builtin; refine wpList_append_own _ rfl _ _ 103 rfl w.heap.size 3 i0 (.int .i64 0) 1 8 Tryz.underlying103 hi hz0 hz1 hz2 rfl (by decide) _ _ _ rfl (hown.alloc _) ⟨_, 0, none⟩ 1 1 [.int .i64 (j : Nat)] rfl rfl (cell_one_new _ _ _) (by simp [Value.oneCell']) (by unfold maxLen; omega) (by omega) (by simp; omega) ?_; intro v' w3 hown' hgrow3 hnil3))
    exact ⟨⟨j + 1, by go_num, by omega, by rw [E.out]; simpa [ints] using hown', (hB.alloc hBs _).grown hgrow3 (by simp; omega) (fun k e => (hown.lt k e).1)⟩, by simp [intOf]; omega⟩
  ·obtain rfl : j = 64 := by omega
   rw [upto_all] at hown;clear hlt hul;go_wp2
   go_ret
   exact ⟨_, rfl, hown, hB⟩
theorem refunits_t (x : Nat) (hx : x < 18446744073709551616) (w : World) (hT : Tab w) :
  Calls Tryz.prog 45 #[.int .u64 x] w fun e w' => ∃ a cap, e = .returned (.slice a (MM.cnt x) cap) ∧ Row w' a (MM.units x) ∧ Stays w w' ∧ Tab w' :=
 (refunits_own x hx w).mono fun _ _ h => by
  obtain ⟨v, rfl, hr, hb⟩ := h;obtain ⟨a, cap, rfl, hrow⟩ := row_of_owns (l := MM.units x) hr;exact ⟨a, cap, rfl, hrow, .of hT hb, (Stays.of hT hb).tab⟩
end Go.Proofs.YtkkkhonjcbhelaaGreatDoor
namespace Go.Proofs.YtkkkhonjcbhelaaGreatDoor
open Go.RowKit
theorem add_or : ∀ (k a : Nat), ¬ a.testBit k = true → a + 2 ^ k = a ||| 2 ^ k
 | 0, a, h => by
  have ha : a % 2 = 0 := by
   have := @Nat.mod_two_eq_one_iff_testBit_zero a;have : ¬ a % 2 = 1 := fun e => h (this.1 e)
   omega
  have h1 : (a ||| 1) / 2 = a / 2 := by rw [Nat.or_div_two]; simp
  have h2 : (a ||| 1) % 2 = 1 := by rw [Nat.or_mod_two_eq_one]; right; rfl
  show a + 1 = a ||| 1;omega
 | k + 1, a, h => by
  have ih := add_or k (a / 2) (by rwa [Nat.testBit_add_one] at h);have h1 : (a ||| 2 ^ (k + 1)) / 2 = a / 2 ||| 2 ^ k := by rw [Nat.or_div_two, Nat.pow_succ]; simp
  have h2 : (a ||| 2 ^ (k + 1)) % 2 = a % 2 := by
   have e1 := @Nat.or_mod_two_eq_one a (2 ^ (k + 1));have e2 : 2 ^ (k + 1) % 2 = 0 := by rw [Nat.pow_succ]; omega
   have e3 := Nat.mod_two_eq_zero_or_one (a ||| 2 ^ (k + 1));rcases Nat.mod_two_eq_zero_or_one a with e | e
   ·rcases e3 with e3 | e3
    ·omega
    ·have := e1.1 e3; omega
   ·rw [e1.2 (.inl e), e]
  have e : 2 ^ (k + 1) = 2 * 2 ^ k := by rw [Nat.pow_succ]; omega
  omega
theorem take_or {l : List Nat} {j : Nat} (h : j < l.length) (hs : l.Pairwise (· < ·)) : MM.ofu (l.take j) + 2 ^ (l[j]?.getD 0) = MM.ofu (l.take (j + 1)) := by
 have e : l.take (j + 1) = l.take j ++ [l[j]?.getD 0] := by
  rw [List.take_succ_eq_append_getElem h, List.getElem?_eq_getElem h]; rfl
 rw [e, MM.ofu_snoc];refine add_or _ _ ?_;rw [MM.testBit_ofu];have hn : l.Nodup := hs.imp fun h => Nat.ne_of_lt h
 have h2 : (l.take (j + 1)).Nodup := hn.sublist (List.take_sublist _ _);rw [e] at h2;have := (List.nodup_append.1 h2).2.2
 simp
 intro hm;exact this _ hm _ (by simp) rfl
theorem reflow_full (x : Nat) (hx : x < 18446744073709551616) (k : Nat) (hk : MM.cnt x < k) (w : World) (hT : Tab w) :
  Calls Tryz.prog 54 #[.int .u64 x, .int .i64 k] w fun e w' => e = .returned (.tuple #[.int .u64 0, .int .i64 2]) ∧ Stays w w' ∧ Tab w' := by
 have HU := Lib.hid (refunits_t x hx w hT);clear hT;go_enter Tryz.func54, Tryz.ntmps54;go_wp2_with (go_at_call 45; refine HU.out.mono ?_; rintro e w2 ⟨a, cap, rfl, hrow, hs2, hT2⟩)
 go_ret2
 exact ⟨rfl, hs2, hT2⟩
set_option maxRecDepth 100000 in
set_option maxHeartbeats 2000000 in
theorem reflow_t (x : Nat) (hx : x < 18446744073709551616) (k : Nat) (hk : k ≤ MM.cnt x) (w : World) (hT : Tab w) :
  Calls Tryz.prog 54 #[.int .u64 x, .int .i64 k] w fun e w' => e = .returned (.tuple #[.int .u64 (MM.low x k), .int .i64 0]) ∧ Stays w w' ∧ Tab w' := by
 obtain ⟨z, hz⟩ : ∃ z, MM.low x k = z := ⟨_, rfl⟩
 rw [hz];have HU := Lib.hid (refunits_t x hx w hT);have h64 := MM.cnt_le x;have hd : decide (MM.cnt x < k) = false := by simp; omega
 clear hT;go_enter Tryz.func54, Tryz.ntmps54;go_wp2_with (go_at_call 45; refine HU.out.mono ?_; rintro e w2 ⟨a, cap, rfl, hrow, hs2, hT2⟩; have HR := Lib.hid hrow; clear hrow)
 go_loop [7, 8] (fun out i => ∃ j q : Nat, i = .int .i64 j ∧ out = .int .u64 q ∧ j ≤ k ∧ Hid (q = MM.ofu ((MM.units x).take j))) (fun _ i => k - (intOf i).toNat)
 case atStart => exact ⟨0, 0, rfl, rfl, Nat.zero_le _, Lib.hid rfl⟩
 case round =>
  obtain ⟨j, q, rfl, rfl, hj, hq⟩ := hrel;by_cases hlt : j < k
  ·have hjl : j < (MM.units x).length := Nat.lt_of_lt_of_le hlt hk;have hadd := take_or hjl (MM.units_sorted x);rw [← hq.out] at hadd;have hul : (MM.units x)[j]?.getD 0 < 64 := by
    rw [List.getElem?_eq_getElem hjl]; exact MM.units_lt (List.getElem_mem hjl)
   have hol : MM.ofu ((MM.units x).take (j + 1)) < 18446744073709551616 := MM.ofu_lt fun i hi => MM.units_lt (List.mem_of_mem_take hi)
   obtain ⟨g, rfl, hc⟩ : ∃ g, a = some ⟨g, 0, none⟩ ∧ w2.cell? ⟨g, j, none⟩ = some (.int .i64 (((MM.units x)[j]?.getD 0 : Nat) : Int)) := by
    rcases HR.out with h | ⟨g, h, _, hc⟩
    ·rw [h] at hjl; simp at hjl
    ·exact ⟨g, h, hc j hjl⟩
   generalize (MM.units x)[j]?.getD 0 = u at hadd hul hc;have hb := refbit_any u hul;generalize 2 ^ u = p at hadd hb;rw [← hadd] at hol;have hi : (q : Int) + (p : Int) ≤ 18446744073709551615 := (by omega);have HB := Lib.hid hb;have HS := Lib.hid hadd;clear hb hadd hol hjl hul;go_wp2_with (go_at_call 65; refine (HB.out _).mono ?_; rintro e w' ⟨rfl, rfl⟩);exact ⟨⟨j + 1, q + p, by go_num, by simp, by omega, HS⟩, by simp [intOf]; omega⟩
  ·obtain rfl : j = k := by omega
   have e : q = z := by rw [hq.out, ← hz]; rfl
   subst e;clear hz hq hlt hd;go_wp2
   go_ret2
   exact ⟨rfl, hs2, hT2⟩
end Go.Proofs.YtkkkhonjcbhelaaGreatDoor
