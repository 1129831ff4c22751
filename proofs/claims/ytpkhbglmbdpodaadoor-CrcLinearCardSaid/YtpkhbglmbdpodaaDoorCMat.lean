/-
  The mathematics of the ways of package crc: four bits at a time by a table; the effect of zero bytes as a matrix of columns, squared again and again.
-/
import Derived.Test.YtpkhbglmbdpodaaDoorCMath
namespace Go.Proofs.YtpkhbglmbdpodaaDoor
namespace C

/-- Four steps at once. -/
theorem st4 (r : Nat) : st 4 r = (r / 16) ^^^ st 4 (r % 16) := by
  have h := split_xor 4 r
  have e : (2 : Nat) ^ 4 = 16 := rfl
  have h4 := st_shift 4 (r / 16)
  rw [e] at h h4
  conv => lhs; rw [← h]
  rw [st_xor, h4, Nat.xor_comm]
theorem st8_two (r : Nat) : st 8 r = st 4 (st 4 r) := st_add 4 4 r
/-- The sixteen words. -/
def words : List Nat := [0, 498536548, 997073096, 651767980, 1994146192, 1802195444, 1303535960, 1342533948, 3988292384, 4027552580, 3604390888, 3412177804, 2607071920, 2262029012, 2685067896, 3183342108]
theorem words_at : ∀ k, k < 16 → words[k]? = some (st 4 k) := by decide
/-- The eight-bit table, should it be asked for. -/
theorem st8_tab (r : Nat) : st 8 r = (r / 256) ^^^ st 8 (r % 256) := by
  have h := split_xor 8 r
  have e : (2 : Nat) ^ 8 = 256 := rfl
  have h4 := st_shift 8 (r / 256)
  rw [e] at h h4
  conv => lhs; rw [← h]
  rw [st_xor, h4, Nat.xor_comm]

theorem xor_pow {a j : Nat} (h : a < 2 ^ j) : a ^^^ 2 ^ j = a + 2 ^ j := by
  have h1 := split_xor j (a + 2 ^ j)
  have hp := Nat.two_pow_pos j
  rw [Nat.add_mod_right, Nat.mod_eq_of_lt h, Nat.add_div_right _ hp, Nat.div_eq_of_lt h, Nat.zero_add, Nat.mul_one] at h1
  exact h1
/-- The product of the first k columns c with the bits of r. -/
def mulK (c : Nat → Nat) (r : Nat) : Nat → Nat
  | 0 => 0
  | k + 1 => mulK c r k ^^^ (if r / 2 ^ k % 2 = 1 then c k else 0)
theorem mulK_one {c : Nat → Nat} {r k : Nat} (h : r / 2 ^ k % 2 = 1) : mulK c r (k + 1) = mulK c r k ^^^ c k := by rw [mulK, if_pos h]
theorem mulK_zero {c : Nat → Nat} {r k : Nat} (h : ¬ r / 2 ^ k % 2 = 1) : mulK c r (k + 1) = mulK c r k := by rw [mulK, if_neg h, Nat.xor_zero]
theorem mulK_st (n r : Nat) : ∀ k, mulK (fun i => st n (2 ^ i)) r k = st n (r % 2 ^ k)
  | 0 => by rw [Nat.pow_zero, Nat.mod_one, st_zero]; rfl
  | k + 1 => by
    by_cases h : r / 2 ^ k % 2 = 1
    · rw [mulK_one h, mulK_st n r k, ← st_xor, xor_pow (Nat.mod_lt _ (Nat.two_pow_pos k)), Nat.mod_pow_succ, h, Nat.mul_one]
    · rw [mulK_zero h, mulK_st n r k, Nat.mod_pow_succ, show r / 2 ^ k % 2 = 0 from by omega, Nat.mul_zero, Nat.add_zero]
theorem mulK_32 {n r : Nat} (h : r < 4294967296) : mulK (fun i => st n (2 ^ i)) r 32 = st n r := by
  rw [mulK_st, Nat.mod_eq_of_lt h]
theorem mulK_congr {c d : Nat → Nat} {r : Nat} : ∀ k, (∀ i, i < k → c i = d i) → mulK c r k = mulK d r k
  | 0, _ => rfl
  | k + 1, h => by rw [mulK, mulK, mulK_congr k (fun i hi => h i (by omega)), h k (by omega)]
/-- One bit of the number of zero bytes. -/
theorem pow_odd {n m a : Nat} (h : n % 2 = 1) : st (m * n) a = st (2 * m * (n / 2)) (st m a) := by
  rw [← st_add]
  congr 1
  have : n = 2 * (n / 2) + 1 := by omega
  conv => lhs; rw [this]
  rw [Nat.mul_add, Nat.mul_one, Nat.mul_comm 2 m, Nat.mul_assoc, Nat.add_comm]
theorem pow_even {n m a : Nat} (h : ¬ n % 2 = 1) : st (m * n) a = st (2 * m * (n / 2)) a := by
  congr 1
  have : n = 2 * (n / 2) := by omega
  conv => lhs; rw [this]
  rw [Nat.mul_comm 2 m, Nat.mul_assoc]
theorem square {m r : Nat} : st m (st m r) = st (2 * m) r := by rw [← st_add, show m + m = 2 * m from by omega]
end C
end Go.Proofs.YtpkhbglmbdpodaaDoor
