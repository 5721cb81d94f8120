/- Plain facts on the units of a number below 2 to the 64: the list of its units, how many there are, its lowest unit, the mask of a list. No program is spoken of. -/
/- Count and First of package mask, and plain facts on bits of 64: contracts over the seat's translation (for layers above mask). -/
/- The document's answers for masks that later layers use (First, Units): contracts over the seat's translation. -/
import Derived.Lib.TrailingZeros
import Derived.WalkKit
import Derived.Lib.Hide
import Derived.IntWalk
import Derived.Laws.Bits64b
import Derived.Test.YtgpfmlidchogcaaGreatProg
import Derived.Deep.QuietTactic
import Derived.BigQuiet
import Derived.OwnWalk
import Derived.Maps.AppendAt
namespace Go.Proofs.YtgpfmlidchogcaaGreat.MM
open Go.Lib (ctz ctzFrom)

def uf : Nat → Nat → Nat → List Nat
 | 0, _, _ => []
 | f + 1, i, m => if m % 2 = 1 then i :: uf f (i + 1) (m / 2) else uf f (i + 1) (m / 2)
def units (m : Nat) : List Nat := uf 64 0 m
def cnt (m : Nat) : Nat := (units m).length
def pc : Nat → Nat → Nat
 | 0, _ => 0
 | f + 1, m => m % 2 + pc f (m / 2)

theorem uf_len : ∀ (f i m : Nat), (uf f i m).length = pc f m
 | 0, _, _ => rfl
 | f + 1, i, m => by
  unfold uf pc
  split
  ·rename_i h; simp [uf_len f (i + 1) (m / 2)]; omega
  ·rename_i h; simp [uf_len f (i + 1) (m / 2)]; omega
theorem cnt_pc (m : Nat) : cnt m = pc 64 m := uf_len 64 0 m
theorem pc_le : ∀ (f m : Nat), pc f m ≤ f
 | 0, _ => Nat.le_refl _
 | f + 1, m => by unfold pc; have := pc_le f (m / 2); omega
theorem cnt_le (m : Nat) : cnt m ≤ 64 := by rw [cnt_pc]; exact pc_le 64 m

theorem uf_mem : ∀ (f i m k : Nat), k ∈ uf f i m ↔ i ≤ k ∧ k < i + f ∧ m.testBit (k - i) = true
 | 0, i, m, k => by simp [uf]; omega
 | f + 1, i, m, k => by
  have hd : (k ∈ uf f (i + 1) (m / 2)) ↔ i + 1 ≤ k ∧ k < i + 1 + f ∧ m.testBit (k - i) = true := by
   rw [uf_mem f (i + 1) (m / 2) k]
   constructor
   ·rintro ⟨a, b, c⟩
    refine ⟨a, b, ?_⟩
    rw [show k - i = (k - (i + 1)) + 1 from by omega, Nat.testBit_add_one]
    exact c
   ·rintro ⟨a, b, c⟩
    refine ⟨a, b, ?_⟩
    rw [show k - i = (k - (i + 1)) + 1 from by omega, Nat.testBit_add_one] at c
    exact c
  unfold uf
  by_cases h : m % 2 = 1
  ·rw [if_pos h, List.mem_cons, hd]
   constructor
   ·rintro (rfl | ⟨a, b, c⟩)
    ·refine ⟨Nat.le_refl _, by omega, ?_⟩
     rw [Nat.sub_self]; exact Nat.mod_two_eq_one_iff_testBit_zero.1 h
    ·exact ⟨by omega, by omega, c⟩
   ·rintro ⟨a, b, c⟩
    by_cases e : k = i
    ·exact .inl e
    ·exact .inr ⟨by omega, by omega, c⟩
  ·rw [if_neg h, hd]
   constructor
   ·rintro ⟨a, b, c⟩; exact ⟨by omega, by omega, c⟩
   ·rintro ⟨a, b, c⟩
    refine ⟨?_, by omega, c⟩
    by_cases e : k = i
    ·subst e
     rw [Nat.sub_self] at c
     exact absurd (Nat.mod_two_eq_one_iff_testBit_zero.2 c) h
    ·omega
theorem units_mem {m k : Nat} : k ∈ units m ↔ k < 64 ∧ m.testBit k = true := by
 unfold units; rw [uf_mem]; simp

theorem uf_sorted : ∀ (f i m : Nat), (uf f i m).Pairwise (· < ·)
 | 0, _, _ => List.Pairwise.nil
 | f + 1, i, m => by
  unfold uf
  split
  ·refine List.Pairwise.cons ?_ (uf_sorted f (i + 1) (m / 2))
   intro k hk
   have := (uf_mem f (i + 1) (m / 2) k).1 hk
   omega
  ·exact uf_sorted f (i + 1) (m / 2)
theorem units_sorted (m : Nat) : (units m).Pairwise (· < ·) := uf_sorted 64 0 m

theorem eq_of_sorted : ∀ (l l' : List Nat), l.Pairwise (· < ·) → l'.Pairwise (· < ·) → (∀ k, k ∈ l ↔ k ∈ l') → l = l'
 | [], [], _, _, _ => rfl
 | [], b :: _, _, _, h => by have := (h b).2 (by simp); simp at this
 | a :: _, [], _, _, h => by have := (h a).1 (by simp); simp at this
 | a :: l, b :: l', h1, h2, h => by
  have h1' := List.pairwise_cons.1 h1
  have h2' := List.pairwise_cons.1 h2
  have hab : a = b := by
   have ha := (h a).1 (by simp)
   have hb := (h b).2 (by simp)
   rcases List.mem_cons.1 ha with e | e
   ·exact e
   ·rcases List.mem_cons.1 hb with e' | e'
    ·exact e'.symm
    ·have := h2'.1 a e; have := h1'.1 b e'; omega
  subst hab
  congr 1
  refine eq_of_sorted l l' h1'.2 h2'.2 fun k => ?_
  constructor
  ·intro hk
   have := h1'.1 k hk
   rcases List.mem_cons.1 ((h k).1 (List.mem_cons_of_mem _ hk)) with e | e
   ·omega
   ·exact e
  ·intro hk
   have := h2'.1 k hk
   rcases List.mem_cons.1 ((h k).2 (List.mem_cons_of_mem _ hk)) with e | e
   ·omega
   ·exact e

theorem lt_of_bits {a : Nat} (h : ∀ i, a.testBit i = true → i < 64) : a < 18446744073709551616 := by
 apply Nat.lt_of_not_le
 intro hle
 obtain ⟨i, hi, hb⟩ := Nat.exists_ge_and_testBit_of_ge_two_pow (n := 64) (x := a) hle
 have := h i hb
 omega
theorem bits_lt {m i : Nat} (h : m < 18446744073709551616) (hb : m.testBit i = true) : i < 64 := by
 apply Nat.lt_of_not_le
 intro hle
 have h1 : 2 ^ 64 ≤ 2 ^ i := Nat.pow_le_pow_right (by decide) hle
 have h2 := Nat.ge_two_pow_of_testBit hb
 omega
theorem units_lt {m k : Nat} (h : k ∈ units m) : k < 64 := (units_mem.1 h).1
/-! The library's way to count. -/
def bm (f : Nat → Nat) : Nat → Nat → Nat
 | 0, _ => 0
 | n + 1, x => f (x % 256) + 256 * bm f n (x / 256)
def mk (c : Nat) : Nat → Nat
 | 0 => 0
 | n + 1 => 256 * mk c n + c
theorem and_byte (y b M c : Nat) (hb : b < 256) (hc : c < 256) : (256 * y + b) &&& (256 * M + c) = 256 * (y &&& M) + (b &&& c) := by
 have h1 : ((256 * y + b) &&& (256 * M + c)) / 2 ^ 8 = y &&& M := by
  rw [Nat.and_div_two_pow]
  rw [show (256 * y + b) / 2 ^ 8 = y from by omega, show (256 * M + c) / 2 ^ 8 = M from by omega]
 have h2 : ((256 * y + b) &&& (256 * M + c)) % 2 ^ 8 = b &&& c := by
  rw [Nat.and_mod_two_pow]
  rw [show (256 * y + b) % 2 ^ 8 = b from by omega, show (256 * M + c) % 2 ^ 8 = c from by omega]
 omega
theorem bm_comp (f g : Nat → Nat) (hf : ∀ b, b < 256 → f b < 256) : ∀ n x, bm g n (bm f n x) = bm (fun b => g (f b)) n x
 | 0, _ => rfl
 | n + 1, x => by
  have hb := hf (x % 256) (Nat.mod_lt _ (by decide))
  conv => lhs; arg 3; unfold bm
  unfold bm
  rw [show (f (x % 256) + 256 * bm f n (x / 256)) % 256 = f (x % 256) from by omega, show (f (x % 256) + 256 * bm f n (x / 256)) / 256 = bm f n (x / 256) from by omega, bm_comp f g hf n]
def t1 (b : Nat) : Nat := (b / 2 &&& 85) + (b &&& 85)
def t2 (b : Nat) : Nat := (b / 4 &&& 51) + (b &&& 51)
def t3 (b : Nat) : Nat := (b / 16 + b) &&& 15
theorem t1_at : ∀ b, b < 256 → ∀ r, r < 2 → (128 * r + b / 2) &&& 85 = b / 2 &&& 85 := by decide +kernel
theorem t2_at : ∀ b, b < 256 → ∀ r, r < 4 → (64 * r + b / 4) &&& 51 = b / 4 &&& 51 := by decide +kernel
theorem t3_at : ∀ b, b < 256 → b / 16 ≤ 4 → b % 16 ≤ 4 → ∀ r, r < 5 → (16 * r + b / 16 + b) &&& 15 = t3 b := by decide +kernel
theorem t1_lt : ∀ b, b < 256 → t1 b < 256 := by decide +kernel
theorem t12_nib : ∀ b, b < 256 → t2 (t1 b) < 256 ∧ t2 (t1 b) / 16 ≤ 4 ∧ t2 (t1 b) % 16 ≤ 4 := by decide +kernel
theorem t123 : ∀ b, b < 256 → t3 (t2 (t1 b)) = pc 8 b := by decide +kernel
theorem s1_eq : ∀ n x, x < 256 ^ n → (x / 2 &&& mk 85 n) + (x &&& mk 85 n) = bm t1 n x
 | 0, x, h => by simp [mk, bm]
 | n + 1, x, h => by
  have hx : x = 256 * (x / 256) + x % 256 := by omega
  have hlt : x / 256 < 256 ^ n := by rw [Nat.pow_succ] at h; omega
  have e1 : x / 2 = 256 * (x / 256 / 2) + (128 * (x / 256 % 2) + x % 256 / 2) := by omega
  have hm : x % 256 < 256 := Nat.mod_lt _ (by decide)
  unfold bm mk
  rw [e1, and_byte _ _ _ _ (by omega) (by decide), t1_at _ hm _ (by omega)]
  conv => lhs; arg 2; arg 1; rw [hx]
  rw [and_byte _ _ _ _ hm (by decide), ← s1_eq n (x / 256) hlt]
  unfold t1; omega
theorem s2_eq : ∀ n x, x < 256 ^ n → (x / 4 &&& mk 51 n) + (x &&& mk 51 n) = bm t2 n x
 | 0, x, h => by simp [mk, bm]
 | n + 1, x, h => by
  have hx : x = 256 * (x / 256) + x % 256 := by omega
  have hlt : x / 256 < 256 ^ n := by rw [Nat.pow_succ] at h; omega
  have e1 : x / 4 = 256 * (x / 256 / 4) + (64 * (x / 256 % 4) + x % 256 / 4) := by omega
  have hm : x % 256 < 256 := Nat.mod_lt _ (by decide)
  unfold bm mk
  rw [e1, and_byte _ _ _ _ (by omega) (by decide), t2_at _ hm _ (by omega)]
  conv => lhs; arg 2; arg 1; rw [hx]
  rw [and_byte _ _ _ _ hm (by decide), ← s2_eq n (x / 256) hlt]
  unfold t2; omega
theorem s3_eq (u : Nat → Nat) (hu : ∀ b, b < 256 → u b < 256 ∧ u b / 16 ≤ 4 ∧ u b % 16 ≤ 4) : ∀ n x, (bm u n x / 16 + bm u n x) &&& mk 15 n = bm (fun b => t3 (u b)) n x
 | 0, x => by simp [mk, bm]
 | n + 1, x => by
  obtain ⟨h1, h2, h3⟩ := hu (x % 256) (Nat.mod_lt _ (by decide))
  have ih := s3_eq u hu n (x / 256)
  have hy : bm u n (x / 256) % 16 ≤ 4 := by
   cases n with
   | zero => simp [bm]
   | succ n =>
    unfold bm
    have := (hu (x / 256 % 256) (Nat.mod_lt _ (by decide))).2.2
    omega
  unfold bm mk
  generalize bm u n (x / 256) = y at *
  generalize u (x % 256) = b at *
  rw [show (b + 256 * y) / 16 + (b + 256 * y) = 256 * (y / 16 + y) + (16 * (y % 16) + b / 16 + b) from by omega]
  rw [and_byte _ _ _ _ (by omega) (by decide), t3_at b h1 h2 h3 _ (by omega), ih]
  omega
theorem pc_add : ∀ (a b x : Nat), pc (a + b) x = pc a x + pc b (x / 2 ^ a)
 | 0, b, x => by simp [pc]
 | a + 1, b, x => by
  rw [show a + 1 + b = (a + b) + 1 from by omega]
  show x % 2 + pc (a + b) (x / 2) = x % 2 + pc a (x / 2) + pc b (x / 2 ^ (a + 1))
  rw [pc_add a b (x / 2), Nat.div_div_eq_div_mul, Nat.pow_succ, Nat.mul_comm (2 ^ a)]
  omega
theorem pc_mod : ∀ (a x : Nat), pc a (x % 2 ^ a) = pc a x
 | 0, x => rfl
 | a + 1, x => by
  unfold pc
  have e1 : x % 2 ^ (a + 1) % 2 = x % 2 := by
   rw [Nat.pow_succ]; exact Nat.mod_mul_left_mod x (2 ^ a) 2
  have e2 : x % 2 ^ (a + 1) / 2 = x / 2 % 2 ^ a := by
   rw [Nat.pow_succ, Nat.mul_comm]; exact Nat.mod_mul_right_div_self x 2 (2 ^ a)
  rw [e1, e2, pc_mod a (x / 2)]
theorem bm_lt (f : Nat → Nat) (hf : ∀ b, b < 256 → f b < 256) : ∀ n x, bm f n x < 256 ^ n
 | 0, _ => by simp [bm]
 | n + 1, x => by
  unfold bm
  have := hf (x % 256) (Nat.mod_lt _ (by decide))
  have := bm_lt f hf n (x / 256)
  rw [Nat.pow_succ]; omega
def z1 (x : Nat) : Nat := (x / 2 &&& 6148914691236517205) + (x &&& 6148914691236517205)
def z2 (x : Nat) : Nat := (x / 4 &&& 3689348814741910323) + (x &&& 3689348814741910323)
def z3 (x : Nat) : Nat := (x / 16 + x) &&& 1085102592571150095
theorem z_eq (x : Nat) (h : x < 18446744073709551616) : z3 (z2 (z1 x)) = bm (fun b => pc 8 b) 8 x := by
 have a1 : z1 x = bm t1 8 x := by rw [← s1_eq 8 x h]; rfl
 have a2 : z2 (z1 x) = bm (fun b => t2 (t1 b)) 8 x := by
  rw [a1, ← bm_comp t1 t2 t1_lt, ← s2_eq 8 _ (bm_lt _ t1_lt _ _)]; rfl
 have a3 : z3 (z2 (z1 x)) = bm (fun b => t3 (t2 (t1 b))) 8 x := by
  rw [a2, ← s3_eq _ t12_nib 8 x]; rfl
 rw [a3]
 simp only [bm]
 rw [t123 _ (Nat.mod_lt _ (by decide)), t123 _ (Nat.mod_lt _ (by decide)), t123 _ (Nat.mod_lt _ (by decide)), t123 _ (Nat.mod_lt _ (by decide)), t123 _ (Nat.mod_lt _ (by decide)), t123 _ (Nat.mod_lt _ (by decide)), t123 _ (Nat.mod_lt _ (by decide)), t123 _ (Nat.mod_lt _ (by decide))]
theorem bm_half (f : Nat → Nat) (hf : ∀ b, b < 256 → f b < 128) : ∀ n x, bm f (n + 1) x < 128 * 256 ^ n
 | 0, x => by unfold bm; have := hf (x % 256) (Nat.mod_lt _ (by decide)); simp [bm]; omega
 | n + 1, x => by
  unfold bm
  have := hf (x % 256) (Nat.mod_lt _ (by decide))
  have := bm_half f hf n (x / 256)
  rw [Nat.pow_succ]; omega
theorem t12_half : ∀ b, b < 256 → t2 (t1 b) < 128 := by decide +kernel
theorem z_lt (x : Nat) (h : x < 18446744073709551616) : z1 x < 18446744073709551616 ∧ z2 (z1 x) < 9223372036854775808 ∧ z3 (z2 (z1 x)) < 18446744073709551616 := by
 have a1 : z1 x = bm t1 8 x := by rw [← s1_eq 8 x h]; rfl
 have a2 : z2 (z1 x) = bm (fun b => t2 (t1 b)) 8 x := by
  rw [a1, ← bm_comp t1 t2 t1_lt, ← s2_eq 8 _ (bm_lt _ t1_lt _ _)]; rfl
 refine ⟨by rw [a1]; exact bm_lt _ t1_lt 8 x, by rw [a2]; exact bm_half _ t12_half 7 x, Nat.lt_of_le_of_lt Nat.and_le_right (by decide)⟩
theorem pc_bytes (x : Nat) : pc 64 x = pc 8 (x % 256) + (pc 8 (x / 256 % 256) + (pc 8 (x / 256 / 256 % 256) + (pc 8 (x / 256 / 256 / 256 % 256) + (pc 8 (x / 256 / 256 / 256 / 256 % 256) + (pc 8 (x / 256 / 256 / 256 / 256 / 256 % 256) + (pc 8 (x / 256 / 256 / 256 / 256 / 256 / 256 % 256) + pc 8 (x / 256 / 256 / 256 / 256 / 256 / 256 / 256 % 256))))))) := by
 have one : ∀ n y, pc (8 + n) y = pc 8 (y % 256) + pc n (y / 256) := fun n y => by rw [pc_add 8 n y, ← pc_mod 8 y]
 have last : ∀ y, pc 8 y = pc 8 (y % 256) := fun y => (pc_mod 8 y).symm
 rw [show (64 : Nat) = 8 + (8 + (8 + (8 + (8 + (8 + (8 + 8)))))) from rfl, one, one, one, one, one, one, one]
 rw [last (x / 256 / 256 / 256 / 256 / 256 / 256 / 256)]
theorem div_byte (r q : Nat) (h : r < 256) : (r + 256 * q) / 256 = q := by omega
theorem div2 (r0 r1 q : Nat) (h0 : r0 < 256) (h1 : r1 < 256) : (r0 + 256 * (r1 + 256 * q)) / 65536 = q := by
 rw [show 65536 = 256 * 256 from rfl, ← Nat.div_div_eq_div_mul, div_byte _ _ h0, div_byte _ _ h1]
theorem div4 (r0 r1 r2 r3 q : Nat) (h0 : r0 < 256) (h1 : r1 < 256) (h2 : r2 < 256) (h3 : r3 < 256) : (r0 + 256 * (r1 + 256 * (r2 + 256 * (r3 + 256 * q)))) / 4294967296 = q := by
 rw [show 4294967296 = 65536 * 65536 from rfl, ← Nat.div_div_eq_div_mul, div2 _ _ _ h0 h1, div2 _ _ _ h2 h3]
theorem mod_byte (r q : Nat) (h : r < 128) : (r + 256 * q) % 128 = r := by omega
theorem byte_lt (r q N : Nat) (h : r < 256) (hq : q < N) : r + 256 * q < 256 * N := by omega
theorem L2 {a b : Nat} (x : a ≤ 8) (y : b ≤ 8) : a + b < 256 := by omega
theorem L3 {a b c : Nat} (x : a ≤ 8) (y : b ≤ 8) (z : c ≤ 8) : a + b + c < 256 := by omega
theorem L4 {a b c d : Nat} (x : a ≤ 8) (y : b ≤ 8) (z : c ≤ 8) (t : d ≤ 8) : a + b + (c + d) < 256 := by omega
theorem L8 {a b c d e f g h : Nat} (x : a ≤ 8) (y : b ≤ 8) (z : c ≤ 8) (t : d ≤ 8) (x' : e ≤ 8) (y' : f ≤ 8) (z' : g ≤ 8) (t' : h ≤ 8) : a + b + (c + d) + (e + f + (g + h)) < 128 := by omega
theorem b8 (r0 r1 r2 r3 r4 r5 r6 r7 : Nat) (h0 : r0 < 256) (h1 : r1 < 256) (h2 : r2 < 256) (h3 : r3 < 256) (h4 : r4 < 256) (h5 : r5 < 256) (h6 : r6 < 256) (h7 : r7 < 256) :
  r0 + 256 * (r1 + 256 * (r2 + 256 * (r3 + 256 * (r4 + 256 * (r5 + 256 * (r6 + 256 * r7)))))) < 18446744073709551616 :=
 byte_lt _ _ 72057594037927936 h0 (byte_lt _ _ 281474976710656 h1 (byte_lt _ _ 1099511627776 h2 (byte_lt _ _ 4294967296 h3 (byte_lt _ _ 16777216 h4 (byte_lt _ _ 65536 h5 (byte_lt _ _ 256 h6 h7))))))
theorem b8' (r0 r1 r2 r3 r4 r5 r6 r7 : Nat) (h0 : r0 < 256) (h1 : r1 < 256) (h2 : r2 < 256) (h3 : r3 < 256) (h4 : r4 < 256) (h5 : r5 < 256) (h6 : r6 < 256) (h7 : r7 < 128) :
  r0 + 256 * (r1 + 256 * (r2 + 256 * (r3 + 256 * (r4 + 256 * (r5 + 256 * (r6 + 256 * r7)))))) < 9223372036854775808 :=
 byte_lt _ _ 36028797018963968 h0 (byte_lt _ _ 140737488355328 h1 (byte_lt _ _ 549755813888 h2 (byte_lt _ _ 2147483648 h3 (byte_lt _ _ 8388608 h4 (byte_lt _ _ 32768 h5 (byte_lt _ _ 128 h6 h7))))))
theorem tail_sum (v0 v1 v2 v3 v4 v5 v6 v7 : Nat) (h0 : v0 ≤ 8) (h1 : v1 ≤ 8) (h2 : v2 ≤ 8) (h3 : v3 ≤ 8) (h4 : v4 ≤ 8) (h5 : v5 ≤ 8) (h6 : v6 ≤ 8) (h7 : v7 ≤ 8)
  (a b c z : Nat) (hz : z = v0 + 256 * (v1 + 256 * (v2 + 256 * (v3 + 256 * (v4 + 256 * (v5 + 256 * (v6 + 256 * v7)))))))
  (ha : a = z + z / 256) (hb : b = a + a / 65536) (hc : c = b + b / 4294967296) : a < 18446744073709551616 ∧ b < 18446744073709551616 ∧ c < 9223372036854775808 ∧ c % 128 = v0 + (v1 + (v2 + (v3 + (v4 + (v5 + (v6 + v7)))))) := by
 have n : ∀ {v : Nat}, v ≤ 8 → v < 256 := fun h => Nat.lt_of_le_of_lt h (by decide)
 have e1 : z / 256 = v1 + 256 * (v2 + 256 * (v3 + 256 * (v4 + 256 * (v5 + 256 * (v6 + 256 * v7))))) := by rw [hz]; exact div_byte _ _ (n h0)
 have ea : a = (v0 + v1) + 256 * ((v1 + v2) + 256 * ((v2 + v3) + 256 * ((v3 + v4) + 256 * ((v4 + v5) + 256 * ((v5 + v6) + 256 * ((v6 + v7) + 256 * v7)))))) := by
  rw [ha, e1, hz]; simp only [Nat.mul_add]; ac_rfl
 have e2 : a / 65536 = (v2 + v3) + 256 * ((v3 + v4) + 256 * ((v4 + v5) + 256 * ((v5 + v6) + 256 * ((v6 + v7) + 256 * v7)))) := by rw [ea]; exact div2 _ _ _ (L2 h0 h1) (L2 h1 h2)
 have eb : b = (v0 + v1 + (v2 + v3)) + 256 * ((v1 + v2 + (v3 + v4)) + 256 * ((v2 + v3 + (v4 + v5)) + 256 * ((v3 + v4 + (v5 + v6)) + 256 * ((v4 + v5 + (v6 + v7)) + 256 * ((v5 + v6 + v7) + 256 * ((v6 + v7) + 256 * v7)))))) := by
  rw [hb, e2, ea]; simp only [Nat.mul_add]; ac_rfl
 have e3 : b / 4294967296 = (v4 + v5 + (v6 + v7)) + 256 * ((v5 + v6 + v7) + 256 * ((v6 + v7) + 256 * v7)) := by rw [eb]; exact div4 _ _ _ _ _ (L4 h0 h1 h2 h3) (L4 h1 h2 h3 h4) (L4 h2 h3 h4 h5) (L4 h3 h4 h5 h6)
 have ec : c = (v0 + v1 + (v2 + v3) + (v4 + v5 + (v6 + v7))) + 256 * ((v1 + v2 + (v3 + v4) + (v5 + v6 + v7)) + 256 * ((v2 + v3 + (v4 + v5) + (v6 + v7)) + 256 * ((v3 + v4 + (v5 + v6) + v7) + 256 * ((v4 + v5 + (v6 + v7)) + 256 * ((v5 + v6 + v7) + 256 * ((v6 + v7) + 256 * v7)))))) := by
  rw [hc, e3, eb]; simp only [Nat.mul_add]; ac_rfl
 clear e1 e2 e3 hz ha hb hc
 refine ⟨?_, ?_, ?_, ?_⟩
 ·rw [ea]; exact b8 _ _ _ _ _ _ _ _ (L2 h0 h1) (L2 h1 h2) (L2 h2 h3) (L2 h3 h4) (L2 h4 h5) (L2 h5 h6) (L2 h6 h7) (n h7)
 ·rw [eb]; exact b8 _ _ _ _ _ _ _ _ (L4 h0 h1 h2 h3) (L4 h1 h2 h3 h4) (L4 h2 h3 h4 h5) (L4 h3 h4 h5 h6) (L4 h4 h5 h6 h7) (L3 h5 h6 h7) (L2 h6 h7) (n h7)
 ·rw [ec]; clear ea eb ec
  exact b8' _ _ _ _ _ _ _ _ (Nat.lt_trans (L8 h0 h1 h2 h3 h4 h5 h6 h7) (by decide)) (by omega) (by omega) (by omega) (L4 h4 h5 h6 h7) (L3 h5 h6 h7) (L2 h6 h7) (Nat.lt_of_le_of_lt h7 (by decide))
 ·rw [ec, mod_byte _ _ (L8 h0 h1 h2 h3 h4 h5 h6 h7)]; ac_rfl
theorem ones (x : Nat) (h : x < 18446744073709551616) (z a b c : Nat) (hz : z = z3 (z2 (z1 x))) (ha : a = z + z / 256) (hb : b = a + a / 65536) (hc : c = b + b / 4294967296) :
  a < 18446744073709551616 ∧ b < 18446744073709551616 ∧ c < 9223372036854775808 ∧ c % 128 = cnt x := by
 rw [cnt_pc, pc_bytes]
 rw [z_eq x h] at hz
 refine tail_sum _ _ _ _ _ _ _ _ (pc_le 8 _) (pc_le 8 _) (pc_le 8 _) (pc_le 8 _) (pc_le 8 _) (pc_le 8 _) (pc_le 8 _) (pc_le 8 _) a b c z ?_ ha hb hc
 rw [hz]; rfl

/-! The mask of a list of numbers, with its error. -/
theorem or_lt {a b : Nat} (ha : a < 18446744073709551616) (hb : b < 18446744073709551616) : a ||| b < 18446744073709551616 := Nat.or_lt_two_pow (n := 64) ha hb
/-! Sets of units: those of one without those of another; counting. -/
def sub (a b : Nat) : Nat := a ^^^ (a &&& b)
theorem testBit_sub (a b i : Nat) : (sub a b).testBit i = (a.testBit i && !b.testBit i) := by
 unfold sub; rw [Nat.testBit_xor, Nat.testBit_and]; cases a.testBit i <;> cases b.testBit i <;> rfl
theorem sub_lt {a : Nat} (b : Nat) (h : a < 18446744073709551616) : sub a b < 18446744073709551616 := lt_of_bits fun i hi => by
 rw [testBit_sub] at hi
 simp at hi
 exact bits_lt h hi.1
end Go.Proofs.YtgpfmlidchogcaaGreat.MM

namespace Go.Proofs.YtgpfmlidchogcaaGreat
open Go.RowKit

theorem and_u64 (a b : Nat) (ha : a < 18446744073709551616) (hb : b < 18446744073709551616) : bits .and .u64 (a : Int) (b : Int) = ((a &&& b : Nat) : Int) := bits_and_u64_nat a b ha hb
theorem or_u64 (a b : Nat) (ha : a < 18446744073709551616) (hb : b < 18446744073709551616) : bits .or .u64 (a : Int) (b : Int) = ((a ||| b : Nat) : Int) := bits_or_u64_nat a b ha hb
theorem u64_nat (a : Nat) (ha : a < 18446744073709551616) : IntKind.u64.wrap (a : Int) = (a : Int) := by rw [IntKind.wrap_u64]; omega
theorem not_u64 (a b : Nat) (ha : a < 18446744073709551616) (hb : b < 18446744073709551616) : bits .andNot .u64 (a : Int) (b : Int) = ((MM.sub a b : Nat) : Int) := by
 have h1 : (BitVec.ofInt 64 (a : Int)).toNat = a := by
  rw [BitVec.ofInt_natCast, BitVec.toNat_ofNat]; exact Nat.mod_eq_of_lt (by omega)
 have h2 : (BitVec.ofInt 64 (b : Int)).toNat = b := by
  rw [BitVec.ofInt_natCast, BitVec.toNat_ofNat]; exact Nat.mod_eq_of_lt (by omega)
 show IntKind.u64.wrap ((BitVec.ofInt 64 (a : Int) &&& ~~~ BitVec.ofInt 64 (b : Int)).toNat : Int) = _
 have e : a &&& (2 ^ 64 - 1 - b) = MM.sub a b := by
  apply Nat.eq_of_testBit_eq
  intro i
  rw [MM.testBit_sub, Nat.testBit_and, show 2 ^ 64 - 1 - b = 2 ^ 64 - (b + 1) from by omega, Nat.testBit_two_pow_sub_succ (by omega)]
  cases hh : a.testBit i
  ·rfl
  ·have := MM.bits_lt ha hh
   simp [this]
 rw [BitVec.toNat_and, BitVec.toNat_not, h1, h2, e]
 exact u64_nat _ (MM.sub_lt b ha)
theorem k1 (x : Nat) (h : x < 18446744073709551616) : IntKind.u64.wrap (bits BinOp.and IntKind.u64 ((x : Int) / 2) 6148914691236517205 + bits BinOp.and IntKind.u64 (x : Int) 6148914691236517205) = ((MM.z1 x : Nat) : Int) := by
 have hz := (MM.z_lt x h).1
 have e1 : bits BinOp.and IntKind.u64 ((x : Int) / 2) 6148914691236517205 = ((x / 2 &&& 6148914691236517205 : Nat) : Int) := and_u64 (x / 2) 6148914691236517205 (by omega) (by decide)
 have e2 : bits BinOp.and IntKind.u64 (x : Int) 6148914691236517205 = ((x &&& 6148914691236517205 : Nat) : Int) := and_u64 x 6148914691236517205 h (by decide)
 rw [e1, e2, ← Int.natCast_add]
 exact u64_nat _ hz
theorem k2 (x : Nat) (h : x < 18446744073709551616) : IntKind.u64.wrap (bits BinOp.and IntKind.u64 ((MM.z1 x : Int) / 4) 3689348814741910323 + bits BinOp.and IntKind.u64 (MM.z1 x : Int) 3689348814741910323) = ((MM.z2 (MM.z1 x) : Nat) : Int) := by
 obtain ⟨h1, hz, _⟩ := MM.z_lt x h
 have e1 : bits BinOp.and IntKind.u64 ((MM.z1 x : Int) / 4) 3689348814741910323 = ((MM.z1 x / 4 &&& 3689348814741910323 : Nat) : Int) := and_u64 (MM.z1 x / 4) 3689348814741910323 (by omega) (by decide)
 have e2 : bits BinOp.and IntKind.u64 (MM.z1 x : Int) 3689348814741910323 = ((MM.z1 x &&& 3689348814741910323 : Nat) : Int) := and_u64 (MM.z1 x) 3689348814741910323 h1 (by decide)
 rw [e1, e2, ← Int.natCast_add]
 exact u64_nat _ (Nat.lt_trans hz (by decide))
theorem k3 (y : Nat) (h : y < 9223372036854775808) : bits BinOp.and IntKind.u64 (IntKind.u64.wrap ((y : Int) / 16 + (y : Int))) 1085102592571150095 = ((MM.z3 y : Nat) : Int) := by
 have e : IntKind.u64.wrap ((y : Int) / 16 + (y : Int)) = ((y / 16 + y : Nat) : Int) := u64_nat (y / 16 + y) (by omega)
 rw [e]
 exact and_u64 (y / 16 + y) 1085102592571150095 (by omega) (by decide)
theorem k4 (z d a : Nat) (h : a < 18446744073709551616) (e : a = z + z / d) : IntKind.u64.wrap ((z : Int) + (z : Int) / (d : Int)) = ((a : Nat) : Int) := by
 subst e
 exact u64_nat (z + z / d) h
theorem and_i64 (a b : Nat) (ha : a < 9223372036854775808) (hb : b < 9223372036854775808) : bits .and .i64 (a : Int) (b : Int) = ((a &&& b : Nat) : Int) := by
 have hx : a &&& b < 9223372036854775808 := Nat.lt_of_le_of_lt Nat.and_le_left ha
 have h1 : (BitVec.ofInt 64 (a : Int)).toNat = a := by
  rw [BitVec.ofInt_natCast, BitVec.toNat_ofNat]; exact Nat.mod_eq_of_lt (by omega)
 have h2 : (BitVec.ofInt 64 (b : Int)).toNat = b := by
  rw [BitVec.ofInt_natCast, BitVec.toNat_ofNat]; exact Nat.mod_eq_of_lt (by omega)
 show IntKind.i64.wrap ((BitVec.ofInt 64 (a : Int) &&& BitVec.ofInt 64 (b : Int)).toNat : Int) = _
 rw [BitVec.toNat_and, h1, h2]
 exact IntWalk.i64_in _ (by omega)
theorem k5 (c : Nat) (h : c < 9223372036854775808) : bits BinOp.and IntKind.i64 (wrap64 (c : Int)) 127 = ((c % 128 : Nat) : Int) := by
 have e : wrap64 (c : Int) = (c : Int) := IntWalk.wrap64_in _ (by omega)
 rw [e, show (127 : Int) = ((127 : Nat) : Int) from rfl, and_i64 c 127 h (by decide)]
 rw [show (127 : Nat) = 2 ^ 7 - 1 from rfl, Nat.and_two_pow_sub_one_eq_mod]

set_option maxHeartbeats 400000 in
theorem ones_any (x : Nat) (hx : x < 18446744073709551616) (w : World) :
  Calls Tryz.prog 151 #[.int .u64 x] w fun e w' => e = .returned (.int .i64 (MM.cnt x)) ∧ w = w' := by
 obtain ⟨a, ha⟩ : ∃ a, a = MM.z3 (MM.z2 (MM.z1 x)) + MM.z3 (MM.z2 (MM.z1 x)) / 256 := ⟨_, rfl⟩
 obtain ⟨b, hb⟩ : ∃ b, b = a + a / 65536 := ⟨_, rfl⟩
 obtain ⟨c, hc⟩ : ∃ c, c = b + b / 4294967296 := ⟨_, rfl⟩
 obtain ⟨l1, l2, l3, l4⟩ := MM.ones x hx _ a b c rfl ha hb hc
 have q1 := k1 x hx
 have q2 := k2 x hx
 have q3 := k3 _ (MM.z_lt x hx).2.1
 have q4 : IntKind.u64.wrap ((MM.z3 (MM.z2 (MM.z1 x)) : Int) + (MM.z3 (MM.z2 (MM.z1 x)) : Int) / 256) = (a : Int) := k4 _ 256 a l1 ha
 have q5 : IntKind.u64.wrap ((a : Int) + (a : Int) / 65536) = (b : Int) := k4 _ 65536 b l2 hb
 have q6 : IntKind.u64.wrap ((b : Int) + (b : Int) / 4294967296) = (c : Int) := k4 _ 4294967296 c (Nat.lt_trans l3 (by decide)) hc
 have q7 := k5 c l3
 rw [l4] at q7
 clear ha hb hc l1 l2 l3 l4
 have Q : Hid (_ ∧ _ ∧ _ ∧ _ ∧ _ ∧ _ ∧ _) := ⟨q1, q2, q3, q4, q5, q6, q7⟩
 clear q1 q2 q3 q4 q5 q6 q7
 go_enter Tryz.func151, Tryz.ntmps151
 go_wp2
 obtain ⟨q1, q2, q3, q4, q5, q6, q7⟩ := Q.out
 simp only [q1, q2, q3, q4, q5, q6, q7]
 go_ret
 exact ⟨rfl, rfl⟩
theorem count_any (x : Nat) (hx : x < 18446744073709551616) (w : World) :
  Calls Tryz.prog 128 #[.int .u64 x] w fun e w' => e = .returned (.int .i64 (MM.cnt x)) ∧ w = w' := by
 go_enter Tryz.func128, Tryz.ntmps128
 go_wp2_with (go_at_call 151; refine (ones_any x hx _).mono ?_; rintro e w' ⟨rfl, rfl⟩)
 go_ret
 exact ⟨rfl, rfl⟩
theorem pow_lt {k : Nat} (hk : k < 64) : 2 ^ k < 18446744073709551616 := Nat.pow_lt_pow_right (a := 2) (by decide) hk
def clamp (n : Int) : Nat := if n < 0 then 0 else if 64 < n then 64 else n.toNat
theorem first_lt {k : Nat} (h : k ≤ 64) : 2 ^ k - 1 < 18446744073709551616 := by
 have : 2 ^ k ≤ 2 ^ 64 := Nat.pow_le_pow_right (by decide) h
 omega
theorem first_mid (k : Nat) (h : k < 64) : IntKind.u64.wrap (IntKind.u64.wrap (2 ^ k) - 1) = ((2 ^ k - 1 : Nat) : Int) := by
 have h1 := pow_lt h
 have h2 : 0 < 2 ^ k := Nat.two_pow_pos k
 have e : IntKind.u64.wrap (2 ^ k) = ((2 ^ k : Nat) : Int) := by
  have := u64_nat (2 ^ k) h1
  rw [← this]; simp
 rw [e, show ((2 ^ k : Nat) : Int) - 1 = ((2 ^ k - 1 : Nat) : Int) from by omega]
 exact u64_nat _ (by omega)
theorem first_top : IntKind.u64.wrap (IntKind.u64.wrap 18446744073709551616 - 1) = ((2 ^ 64 - 1 : Nat) : Int) := by simp [IntKind.wrap_u64]
theorem first_any (n : Int) (w : World) :
  Calls Tryz.prog 136 #[.int .i64 n] w fun e w' => e = .returned (.int .u64 ((2 ^ clamp n - 1 : Nat) : Int)) ∧ w = w' := by
 by_cases h1 : n < 0
 ·have hc : clamp n = 0 := by unfold clamp; rw [if_pos h1]
  rw [hc]; clear hc
  go_enter Tryz.func136, Tryz.ntmps136
  go_wp2
  go_ret
  exact ⟨rfl, rfl⟩
 ·by_cases h2 : 64 < n
  ·have hc : clamp n = 64 := by unfold clamp; rw [if_neg h1, if_pos h2]
   rw [hc]; clear hc
   go_enter Tryz.func136, Tryz.ntmps136
   go_wp2
   all_goals
    simp only [first_top]
    go_ret
    exact ⟨rfl, rfl⟩
  ·obtain ⟨k, rfl⟩ : ∃ k : Nat, n = k := ⟨n.toNat, by omega⟩
   have hc : clamp (k : Int) = k := by unfold clamp; rw [if_neg h1, if_neg h2]; rfl
   rw [hc]; clear hc
   by_cases h3 : k = 64
   ·subst h3
    go_enter Tryz.func136, Tryz.ntmps136
    go_wp2
    all_goals
     simp only [first_top]
     go_ret
     exact ⟨rfl, rfl⟩
   ·have hk : k < 64 := by omega
    have F := Lib.hid (first_mid k hk)
    clear h3
    go_enter Tryz.func136, Tryz.ntmps136
    go_wp2
    all_goals
     simp only [F.out]
     go_ret
     exact ⟨rfl, rfl⟩

end Go.Proofs.YtgpfmlidchogcaaGreat

namespace Go.Proofs.YtgpfmlidchogcaaGreat
open Go.RowKit
def ints (l : List Nat) : List Value := l.map fun k => .int .i64 (k : Nat)
theorem info_int : (Tryz.prog.info? 3).map (fun i => (i.zero, i.size, i.bytes)) = some (some (.int .i64 0), 1, 8) := by kernel_rfl


set_option maxRecDepth 100000 in
set_option maxHeartbeats 1000000 in
theorem refbit_any (k : Nat) (hk : k < 64) (w : World) :
  Calls Tryz.prog 137 #[.int .i64 k] w fun e w' => e = .returned (.int .u64 ((2 ^ k : Nat) : Int)) ∧ w = w' := by
 obtain ⟨z, hz⟩ : ∃ z, 2 ^ k = z := ⟨_, rfl⟩
 rw [hz]
 go_enter Tryz.func137, Tryz.ntmps137
 go_wp2
 go_loop [3, 4] (fun b i => ∃ j p : Nat, i = .int .i64 j ∧ b = .int .u64 p ∧ j ≤ k ∧ Hid (p = 2 ^ j)) (fun _ i => k - (intOf i).toNat)
 case atStart => exact ⟨0, 1, rfl, rfl, Nat.zero_le _, Lib.hid rfl⟩
 case round =>
  obtain ⟨j, p, rfl, rfl, hj, hp⟩ := hrel
  by_cases hlt : j < k
  ·have hpl : p * 2 < 18446744073709551616 := by
    rw [hp.out, ← Nat.pow_succ]; exact pow_lt (k := j + 1) (by omega)
   have hpi : (p : Int) * 2 ≤ 18446744073709551615 := by omega
   clear hpl
   go_wp2
   exact ⟨⟨j + 1, p * 2, by go_num, by simp, by omega, Lib.hid (by rw [hp.out, Nat.pow_succ])⟩, by simp [intOf]; omega⟩
  ·obtain rfl : j = k := by omega
   have e : p = z := by rw [hp.out, hz]
   subst e
   clear hz hp hlt
   go_wp2
   go_ret
   exact ⟨rfl, rfl⟩

theorem bit_test (m k q : Nat) (h : q = m / 2 ^ k) : ((q : Int) % 2 == 1) = m.testBit k := by
 have e : m.testBit k = decide (q % 2 = 1) := by rw [Nat.testBit_eq_decide_div_mod_eq, h]
 rw [e, Bool.eq_iff_iff]
 simp
 omega
set_option maxRecDepth 100000 in
set_option maxHeartbeats 1000000 in
theorem has_any (m k : Nat) (hm : m < 18446744073709551616) (hk : k < 64) (w : World) :
  Calls Tryz.prog 175 #[.int .u64 m, .int .i64 k] w fun e w' => e = .returned (.bool (m.testBit k)) ∧ w = w' := by
 obtain ⟨z, hz⟩ : ∃ z, m.testBit k = z := ⟨_, rfl⟩
 rw [hz]
 have h64 : decide ((k : Int) < 64) = true := by simp; omega
 go_enter Tryz.func175, Tryz.ntmps175
 go_wp2
 go_loop [0, 5] (fun x i => ∃ j q : Nat, i = .int .i64 j ∧ x = .int .u64 q ∧ j ≤ k ∧ q < 18446744073709551616 ∧ Hid (q = m / 2 ^ j)) (fun _ i => k - (intOf i).toNat)
 case atStart => exact ⟨0, m, rfl, rfl, Nat.zero_le _, hm, Lib.hid (by simp)⟩
 case round =>
  obtain ⟨j, q, rfl, rfl, hj, hq, hd⟩ := hrel
  by_cases hlt : j < k
  ·go_wp2
   exact ⟨⟨j + 1, q / 2, by go_num, by simp, by omega, by omega, Lib.hid (by rw [hd.out, Nat.div_div_eq_div_mul, Nat.pow_succ])⟩, by simp [intOf]; omega⟩
  ·obtain rfl : j = k := by omega
   have e := bit_test m j q hd.out
   rw [hz] at e
   clear hz hd hlt
   have E := Lib.hid e
   clear e
   go_wp2
   simp only [E.out]
   go_ret
   exact ⟨rfl, rfl⟩

theorem clamp_lt {n : Int} {j : Nat} : j < clamp n ↔ (j : Int) < n ∧ j < 64 := by unfold clamp; split; omega; split <;> omega
set_option maxRecDepth 100000 in
set_option maxHeartbeats 1000000 in
theorem reffirst_any (n : Int) (w : World) :
  Calls Tryz.prog 105 #[.int .i64 n] w fun e w' => e = .returned (.int .u64 ((2 ^ clamp n - 1 : Nat) : Int)) ∧ w = w' := by
 obtain ⟨z, hz⟩ : ∃ z, 2 ^ clamp n - 1 = z := ⟨_, rfl⟩
 rw [hz]
 obtain ⟨c, hcl⟩ : ∃ c, clamp n = c := ⟨_, rfl⟩
 have hlt0 := fun j => @clamp_lt n j
 rw [hcl] at hz hlt0
 have H := Lib.hid hlt0
 clear hlt0 hcl
 go_enter Tryz.func105, Tryz.ntmps105
 go_wp2
 go_loop [3, 4] (fun m i => ∃ j q : Nat, i = .int .i64 j ∧ m = .int .u64 q ∧ j ≤ c ∧ j ≤ 64 ∧ Hid (q = 2 ^ j - 1)) (fun _ i => 64 - (intOf i).toNat)
 case atStart => exact ⟨0, 0, rfl, rfl, Nat.zero_le _, by omega, Lib.hid rfl⟩
 case round =>
  obtain ⟨j, q, rfl, rfl, hj, hj64, hq⟩ := hrel
  have hiff := H.out j
  by_cases hlt : j < c
  ·obtain ⟨t1, t2⟩ := hiff.1 hlt
   have hb := refbit_any j t2
   have hp := Nat.two_pow_pos j
   have hpl := pow_lt (k := j + 1)
   have hqe := hq.out
   have hsum : q + 2 ^ j = 2 ^ (j + 1) - 1 := by rw [hqe, Nat.pow_succ]; omega
   have hsl : q + 2 ^ j < 18446744073709551616 := by rw [hsum]; exact first_lt (by omega)
   generalize 2 ^ j = p at hb hsum hsl
   have hi : (q : Int) + (p : Int) ≤ 18446744073709551615 := by omega
   have HB := Lib.hid hb
   have HS := Lib.hid hsum
   have t3 : (j : Int) < 64 := by omega
   clear hb hsum hsl hp hpl hqe hiff
   go_wp2_with (go_at_call 137; refine (HB.out _).mono ?_; rintro e w' ⟨rfl, rfl⟩)
   exact ⟨⟨j + 1, q + p, by go_num, by simp, by omega, by omega, HS⟩, by simp [intOf]; omega⟩
  ·obtain rfl : j = c := by omega
   have e : q = z := by rw [hq.out, hz]
   subst e
   have hno : ¬ ((j : Int) < n ∧ j < 64) := fun h => hlt (hiff.2 h)
   clear hz hq hlt hiff
   by_cases t1 : (j : Int) < n
   ·have t2 : 64 ≤ (j : Int) := by have := fun h => hno ⟨t1, h⟩; omega
    clear hno
    go_wp2
    go_ret
    exact ⟨rfl, rfl⟩
   ·clear hno
    go_wp2
    go_ret
    exact ⟨rfl, rfl⟩
def upto (m j : Nat) : List Nat := (List.range j).filter fun k => m.testBit k
theorem upto_hit {m j : Nat} (h : m.testBit j = true) : upto m (j + 1) = upto m j ++ [j] := by
 unfold upto; rw [List.range_succ, List.filter_append]; simp [h]
theorem upto_miss {m j : Nat} (h : m.testBit j = false) : upto m (j + 1) = upto m j := by
 unfold upto; rw [List.range_succ, List.filter_append]; simp [h]
theorem upto_le (m j : Nat) : (upto m j).length ≤ j := by
 have := List.length_filter_le (fun k => m.testBit k) (List.range j)
 simpa [upto] using this
theorem upto_all (m : Nat) : upto m 64 = MM.units m := by
 refine MM.eq_of_sorted _ _ (List.Pairwise.filter _ List.pairwise_lt_range) (MM.units_sorted _) fun k => ?_
 rw [MM.units_mem]
 simp [upto]
set_option maxRecDepth 100000 in
set_option maxHeartbeats 2000000 in
theorem refunits_own (m : Nat) (hm : m < 18446744073709551616) (w : World) :
  Calls Tryz.prog 142 #[.int .u64 m] w fun e w' => ∃ v, e = .returned v ∧ w'.ownsRow w.heap.size 3 1 v (MM.cnt m) (ints (MM.units m)) ∧ Below w.heap.size w w' := by
 obtain ⟨i0, hi, hz0, hz1, hz2⟩ := info_parts info_int
 go_enter Tryz.func142, Tryz.ntmps142
 go_wp2
 go_loopw [3, 4] (fun out i wr => ∃ j : Nat, i = .int .i64 j ∧ j ≤ 64 ∧ wr.ownsRow w.heap.size 3 1 out (upto m j).length (ints (upto m j)) ∧ Below w.heap.size w wr) (fun _ i _ => 64 - (intOf i).toNat)
 case atStart => exact ⟨0, rfl, by omega, World.ownsRow_nil _ _ _ _, Below.refl _ _⟩
 case round =>
  obtain ⟨j, rfl, hj, hown, hB⟩ := hrel
  have hul := upto_le m j
  have hBs := hB.size
  by_cases hlt : j < 64
  ·have hh := has_any m j hm hlt
   cases hb : m.testBit j
   ·rw [hb] at hh
    have HH := Lib.hid hh
    have e := upto_miss hb
    have E := Lib.hid e
    clear hh hb e hul
    go_wp2_with (go_at_call 175; refine (HH.out _).mono ?_; rintro e w' ⟨rfl, rfl⟩)
    exact ⟨⟨j + 1, by go_num, by omega, by rw [E.out]; exact hown, hB⟩, by simp [intOf]; omega⟩
   ·rw [hb] at hh
    have HH := Lib.hid hh
    have e := upto_hit hb
    have E := Lib.hid e
    clear hh hb e
    go_wp2_with (first
     | (go_at_call 175; refine (HH.out _).mono ?_; rintro e w' ⟨rfl, rfl⟩)
     | (at_builtin; refine wpList_append_own _ rfl _ _ 36 rfl w.heap.size 3 i0 (.int .i64 0) 1 8 Tryz.underlying36 hi hz0 hz1 hz2 rfl (by decide) _ _ _ rfl (hown.alloc _) ⟨_, 0, none⟩ 1 1 [.int .i64 (j : Nat)] rfl rfl (cell_one_new _ _ _) (by simp [Value.oneCell']) (by unfold maxLen; omega) (by omega) (by simp; omega) ?_; intro v' w3 hown' hgrow3 hnil3))
    exact ⟨⟨j + 1, by go_num, by omega, by rw [E.out]; simpa [ints] using hown', (hB.alloc hBs _).grown hgrow3 (by simp; omega) (fun k e => (hown.lt k e).1)⟩, by simp [intOf]; omega⟩
  ·obtain rfl : j = 64 := by omega
   rw [upto_all] at hown
   clear hlt hul
   go_wp2
   go_ret
   exact ⟨_, rfl, hown, hB⟩
end Go.Proofs.YtgpfmlidchogcaaGreat
