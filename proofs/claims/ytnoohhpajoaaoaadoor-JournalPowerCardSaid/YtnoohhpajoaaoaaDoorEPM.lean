/-
  Mathematics of the program's Encode and Decode: the table of data positions, words spread over it and taken from it, check bits set by 'or'.
-/
import Derived.Test.YtnoohhpajoaaoaaDoorECode
namespace Go.Proofs.YtnoohhpajoaaoaaDoor
namespace E
set_option linter.unusedVariables false
def tabN : List Nat := [2, 4, 5, 6, 8, 9, 10, 11, 12, 13, 14, 16, 17, 18, 19, 20, 21, 22, 23, 24, 25, 26, 27, 28, 29, 30, 32, 33, 34, 35, 36, 37]
/-- The bit of data position j. -/
def tN (j : Nat) : Nat := tabN.getD j 0
theorem tN_lt (j : Nat) (h : j < 32) : tN j < 38 := by
  have h1 : ∀ j : Fin 32, tN j.val < 38 := by decide +kernel
  exact h1 ⟨j, h⟩
theorem tN_up (j : Nat) (h : j + 1 < 32) : tN j + 1 ≤ tN (j + 1) := by
  have h1 : ∀ j : Fin 31, tN j.val + 1 ≤ tN (j.val + 1) := by decide +kernel
  exact h1 ⟨j, by omega⟩
theorem up_data (k : Nat) (h : k < 38) (hc : chk (k + 1) = false) : up k < 32 ∧ tN (up k) = k := by
  have h1 : ∀ k : Fin 38, chk (k.val + 1) = false → up k.val < 32 ∧ tN (up k.val) = k.val := by decide +kernel
  exact h1 ⟨k, h⟩ hc
/-! ### A word spread over the table -/
def com (w : Nat) : Nat → Nat
  | 0 => 0
  | j + 1 => com w j + (w.testBit j).toNat * 2 ^ tN j
theorem com_lt (w : Nat) : ∀ j, j < 32 → com w j < 2 ^ tN j
  | 0, _ => Nat.pow_pos (by omega)
  | j + 1, h => by
    have ih := com_lt w j (by omega)
    have h1 := tN_up j h
    have h2 : (w.testBit j).toNat * 2 ^ tN j ≤ 1 * 2 ^ tN j := Nat.mul_le_mul_right _ (Bool.toNat_le _)
    have h3 : 2 ^ (tN j + 1) ≤ 2 ^ tN (j + 1) := Nat.pow_le_pow_right (by omega) h1
    rw [Nat.pow_succ] at h3
    rw [com]
    omega
theorem com_spr (w : Nat) : ∀ k, k ≤ 38 → com w (up k) = (spr w k).1
  | 0, _ => rfl
  | k + 1, h => by
    have ih := com_spr w k (by omega)
    rw [up, spr]
    cases hc : chk (k + 1) with
    | true => simp only [if_true]; exact ih
    | false =>
      simp only [if_neg (show ¬ (false = true) by decide)]
      rw [com, ih, (up_data k (by omega) hc).2, spr_rest, bit_toNat]
theorem com_all (w : Nat) : com w 32 = (spr w 38).1 := com_spr w 38 (by omega)
theorem com_lt38 (w : Nat) {j : Nat} (h : j ≤ 32) : com w j < 2 ^ 38 := by
  by_cases e : j = 32
  · rw [e, com_all]; exact spr_lt w 38
  · exact Nat.lt_of_lt_of_le (com_lt w j (by omega)) (Nat.pow_le_pow_right (by omega) (by have := tN_lt j (by omega); omega))
/-- 'or' with a bit above. -/
theorem or_add {a b n : Nat} (h : a < 2 ^ n) : a ||| (b * 2 ^ n) = a + b * 2 ^ n := by
  rw [Nat.or_comm, Nat.mul_comm, ← Nat.two_pow_add_eq_or_of_lt h, Nat.add_comm]
theorem com_or (w j : Nat) (h : j < 32) : com w j ||| ((w.testBit j).toNat * 2 ^ tN j) = com w (j + 1) := by rw [or_add (com_lt w j h)]; rfl
/-! ### The data taken over the table -/
def dac (c : Nat) : Nat → Nat
  | 0 => 0
  | j + 1 => dac c j + (c.testBit (tN j)).toNat * 2 ^ j
theorem dac_lt (c : Nat) : ∀ j, dac c j < 2 ^ j
  | 0 => Nat.zero_lt_succ _
  | j + 1 => by
    have ih := dac_lt c j
    have h2 : (c.testBit (tN j)).toNat * 2 ^ j ≤ 1 * 2 ^ j := Nat.mul_le_mul_right _ (Bool.toNat_le _)
    rw [dac, Nat.pow_succ]
    omega
theorem dac_or (c j : Nat) : dac c j ||| ((c.testBit (tN j)).toNat * 2 ^ j) = dac c (j + 1) := by rw [or_add (dac_lt c j)]; rfl
theorem dac_bit (c : Nat) : ∀ n j, j < n → (dac c n).testBit j = c.testBit (tN j)
  | 0, j, h => by omega
  | n + 1, j, h => by
    rw [← dac_or, Nat.testBit_or, Nat.testBit_mul_two_pow]
    by_cases e : j = n
    · subst e
      rw [Nat.testBit_lt_two_pow (dac_lt c j), Bool.false_or, Nat.sub_self]
      cases c.testBit (tN j) <;> simp
    · rw [dac_bit c n j (by omega), decide_eq_false (by omega), Bool.false_and, Bool.or_false]
theorem dac_all (c : Nat) : dac c 32 = dat c 38 := by
  have h := dat_of (c := c) (w := dac c 32) (fun i hi hc => by
    obtain ⟨h1, h2⟩ := up_data i hi hc
    rw [dac_bit c 32 (up i) h1, h2]) (dac_lt c 32) 38 (by omega)
  rw [h]
  exact (Nat.div_one _).symm
/-! ### Check bits -/
theorem cks_bit {c s : Nat} (hf : ∀ i, chk (i + 1) = true → c.testBit i = false) : ∀ j, j ≤ 6 → ∀ i, (∀ m, m < j → i ≠ 2 ^ m - 1) → (cks c s j).testBit i = c.testBit i
  | 0, _, i, _ => rfl
  | j + 1, hj, i, h => by
    have hq : (cks c s j).testBit (2 ^ j - 1) = false := by
      rw [cks_bit hf j (by omega) _ (fun m hm e => by
        have h1 : 0 < 2 ^ m := Nat.pow_pos (by omega)
        have h2 : 2 ^ m < 2 ^ j := Nat.pow_lt_pow_right (by omega) hm
        omega)]
      apply hf
      have h1 : ∀ j : Fin 6, chk (2 ^ j.val - 1 + 1) = true := by decide +kernel
      exact h1 ⟨j, by omega⟩
    rw [cks, add_pt hq, Nat.testBit_xor, pt_bit, cks_bit hf j (by omega) i (fun m hm => h m (by omega)), decide_eq_false (fun e => h j (by omega) e.symm), Bool.and_false, Bool.xor_false]
theorem or_pt {x q : Nat} (h : x.testBit q = false) (b : Bool) : x ||| (b.toNat * 2 ^ q) = x + b.toNat * 2 ^ q := by
  cases b with
  | false => simp
  | true =>
    rw [Bool.toNat_true, Nat.one_mul, ← xor_eq_add q x h]
    apply Nat.eq_of_testBit_eq
    intro i
    rw [Nat.testBit_or, Nat.testBit_xor, Nat.testBit_two_pow]
    by_cases e : q = i
    · subst e; rw [h]; simp
    · rw [decide_eq_false e]; simp
theorem cks_or {c s j : Nat} (hf : ∀ i, chk (i + 1) = true → c.testBit i = false) (hj : j < 6) : cks c s j ||| ((s.testBit j).toNat * 2 ^ (2 ^ j - 1)) = cks c s (j + 1) := by
  have hq : (cks c s j).testBit (2 ^ j - 1) = false := by
    rw [cks_bit hf j (by omega) _ (fun m hm e => by
      have h1 : 0 < 2 ^ m := Nat.pow_pos (by omega)
      have h2 : 2 ^ m < 2 ^ j := Nat.pow_lt_pow_right (by omega) hm
      omega)]
    apply hf
    have h1 : ∀ j : Fin 6, chk (2 ^ j.val - 1 + 1) = true := by decide +kernel
    exact h1 ⟨j, by omega⟩
  rw [or_pt hq]; rfl
theorem spr_free (w i : Nat) (h : chk (i + 1) = true) : (spr w 38).1.testBit i = false := by
  by_cases hi : i < 38
  · rw [spr_bit w 38 i hi, h]; rfl
  · exact Nat.testBit_lt_two_pow (Nat.lt_of_lt_of_le (spr_lt w 38) (Nat.pow_le_pow_right (by omega) (by omega)))
theorem cks_lt {c s : Nat} (hc : c < 2 ^ 38) (hf : ∀ i, chk (i + 1) = true → c.testBit i = false) : ∀ j, j ≤ 6 → cks c s j < 2 ^ 38
  | 0, _ => hc
  | j + 1, h => by
    rw [← cks_or hf (by omega)]
    refine Nat.or_lt_two_pow (cks_lt hc hf j (by omega)) ?_
    have h1 : 2 ^ (2 ^ j - 1) < 2 ^ 38 := Nat.pow_lt_pow_right (by omega) (by
      have : 2 ^ j ≤ 2 ^ 5 := Nat.pow_le_pow_right (by omega) (by omega)
      omega)
    have h2 : (s.testBit j).toNat * 2 ^ (2 ^ j - 1) ≤ 1 * 2 ^ (2 ^ j - 1) := Nat.mul_le_mul_right _ (Bool.toNat_le _)
    omega
end E
end Go.Proofs.YtnoohhpajoaaoaaDoor
