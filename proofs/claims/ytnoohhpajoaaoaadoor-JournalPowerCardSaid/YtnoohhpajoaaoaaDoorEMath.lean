/-
  Mathematics of the code: syndromes, data bits, numbers of set bits, all over natural numbers.
-/
namespace Go.Proofs.YtnoohhpajoaaoaaDoor
namespace E
set_option linter.unusedVariables false
/-! ### Bits -/
theorem xor_eq_add : ∀ (b d : Nat), d.testBit b = false → d ^^^ 2 ^ b = d + 2 ^ b
  | 0, d, h => by
    have h1 : d % 2 = 0 := by rw [Nat.testBit_zero, decide_eq_false_iff_not] at h; omega
    apply Nat.eq_of_testBit_eq
    intro i
    cases i with
    | zero => rw [Nat.testBit_xor, Nat.testBit_zero, Nat.testBit_zero, Nat.testBit_zero, h1]; have : (d + 2 ^ 0) % 2 = 1 := by omega
              rw [this]; rfl
    | succ i =>
      rw [Nat.testBit_xor, Nat.testBit_succ, Nat.testBit_succ, Nat.testBit_succ, show (d + 2 ^ 0) / 2 = d / 2 by omega, show (2 : Nat) ^ 0 / 2 = 0 by decide, Nat.zero_testBit, Bool.xor_false]
  | b + 1, d, h => by
    rw [Nat.testBit_succ] at h
    have ih := xor_eq_add b (d / 2) h
    have e : (2 : Nat) ^ (b + 1) = 2 * 2 ^ b := by rw [Nat.pow_succ]; omega
    apply Nat.eq_of_testBit_eq
    intro i
    cases i with
    | zero => rw [Nat.testBit_xor, Nat.testBit_zero, Nat.testBit_zero, Nat.testBit_zero, e, show (d + 2 * 2 ^ b) % 2 = d % 2 by omega, show 2 * 2 ^ b % 2 = 0 by omega]; simp
    | succ i =>
      rw [Nat.testBit_xor, Nat.testBit_succ, Nat.testBit_succ, Nat.testBit_succ, e, show (d + 2 * 2 ^ b) / 2 = d / 2 + 2 ^ b by omega, show 2 * 2 ^ b / 2 = 2 ^ b by omega, ← ih, Nat.testBit_xor]
theorem xor_xor (a b : Nat) : a ^^^ b ^^^ b = a := by rw [Nat.xor_assoc, Nat.xor_self, Nat.xor_zero]
theorem xor_eq_sub {b d : Nat} (h : d.testBit b = true) : d ^^^ 2 ^ b = d - 2 ^ b := by
  have h1 : (d ^^^ 2 ^ b).testBit b = false := by rw [Nat.testBit_xor, h, Nat.testBit_two_pow_self]; rfl
  have h2 := xor_eq_add b _ h1
  rw [xor_xor] at h2
  omega
theorem xor_four (a b c d : Nat) : a ^^^ b ^^^ (c ^^^ d) = a ^^^ c ^^^ (b ^^^ d) := by
  rw [Nat.xor_assoc, Nat.xor_assoc, ← Nat.xor_assoc b c d, Nat.xor_comm b c, Nat.xor_assoc c b d]
theorem xor_zero_iff {a b : Nat} : a ^^^ b = 0 ↔ a = b := by
  constructor
  · intro h
    have := xor_xor a b
    rw [h, Nat.zero_xor] at this
    exact this.symm
  · rintro rfl; exact Nat.xor_self a
theorem bit_toNat (c n : Nat) : (c.testBit n).toNat = c / 2 ^ n % 2 := by
  rw [Nat.testBit_eq_decide_div_mod_eq]
  by_cases h : c / 2 ^ n % 2 = 1
  · rw [decide_eq_true h, h]; rfl
  · rw [decide_eq_false h, show c / 2 ^ n % 2 = 0 by omega]; rfl
/-! ### Numbers of set bits -/
/-- How many of the first n bits are set. -/
def cnt (c : Nat) : Nat → Nat
  | 0 => 0
  | n + 1 => cnt c n + (c.testBit n).toNat
theorem cnt_zero : ∀ n, cnt 0 n = 0
  | 0 => rfl
  | n + 1 => by rw [cnt, cnt_zero n, Nat.zero_testBit]; rfl
theorem cnt_le (c : Nat) : ∀ n, cnt c n ≤ n
  | 0 => Nat.le_refl _
  | n + 1 => by
    have := cnt_le c n
    have : (c.testBit n).toNat ≤ 1 := Bool.toNat_le _
    rw [cnt]; omega
theorem cnt_congr {a b : Nat} : ∀ {n}, (∀ i, i < n → a.testBit i = b.testBit i) → cnt a n = cnt b n
  | 0, _ => rfl
  | n + 1, h => by rw [cnt, cnt, cnt_congr (fun i hi => h i (by omega)), h n (by omega)]
/-- Parity is linear. -/
theorem cnt_xor (a b : Nat) : ∀ n, cnt (a ^^^ b) n % 2 = (cnt a n + cnt b n) % 2
  | 0 => rfl
  | n + 1 => by
    have ih := cnt_xor a b n
    rw [cnt, cnt, cnt, Nat.testBit_xor]
    cases a.testBit n <;> cases b.testBit n <;> simp only [Bool.toNat_true, Bool.toNat_false, Bool.xor_false, Bool.xor_true, Bool.not_true, Bool.not_false] <;> omega
/-- The triangle. -/
theorem cnt_tri (a b c : Nat) : ∀ n, cnt (a ^^^ c) n ≤ cnt (a ^^^ b) n + cnt (b ^^^ c) n
  | 0 => Nat.le_refl _
  | n + 1 => by
    have ih := cnt_tri a b c n
    rw [cnt, cnt, cnt, Nat.testBit_xor, Nat.testBit_xor, Nat.testBit_xor]
    cases a.testBit n <;> cases b.testBit n <;> cases c.testBit n <;> simp only [Bool.toNat_true, Bool.toNat_false, Bool.xor_false, Bool.xor_true, Bool.not_true, Bool.not_false] <;> omega
theorem cnt_pos {c : Nat} : ∀ {n}, cnt c n ≠ 0 → ∃ i, i < n ∧ c.testBit i = true
  | 0, h => absurd rfl h
  | n + 1, h => by
    by_cases hb : c.testBit n = true
    · exact ⟨n, by omega, hb⟩
    · rw [cnt, Bool.eq_false_iff.2 hb] at h
      obtain ⟨i, hi, he⟩ := cnt_pos (c := c) (n := n) (by simpa using h)
      exact ⟨i, by omega, he⟩
theorem cnt_none {c n : Nat} (h : cnt c n = 0) : ∀ i, i < n → c.testBit i = false := by
  induction n with
  | zero => intro i hi; omega
  | succ n ih =>
    rw [cnt] at h
    have h1 : (c.testBit n).toNat = 0 := by omega
    intro i hi
    by_cases e : i = n
    · subst e; cases hb : c.testBit i with
      | false => rfl
      | true => rw [hb] at h1; cases h1
    · exact ih (by omega) i (by omega)
theorem eq_zero_of {c n : Nat} (hc : c < 2 ^ n) (h : cnt c n = 0) : c = 0 := by
  apply Nat.eq_of_testBit_eq
  intro i
  rw [Nat.zero_testBit]
  by_cases hi : i < n
  · exact cnt_none h i hi
  · exact Nat.testBit_lt_two_pow (Nat.lt_of_lt_of_le hc (Nat.pow_le_pow_right (by omega) (by omega)))
theorem cnt_pow (b : Nat) : ∀ n, cnt (2 ^ b) n = if b < n then 1 else 0
  | 0 => rfl
  | n + 1 => by
    rw [cnt, cnt_pow b n, Nat.testBit_two_pow]
    by_cases h : b < n
    · rw [if_pos h, if_pos (by omega), decide_eq_false (by omega)]; rfl
    · rw [if_neg h]
      by_cases h2 : b = n
      · rw [if_pos (by omega), decide_eq_true h2]; rfl
      · rw [if_neg (by omega), decide_eq_false h2]; rfl
/-- A number with one set bit taken away. -/
theorem cnt_flip {c b n : Nat} (hb : b < n) : cnt (c ^^^ 2 ^ b) n + (c.testBit b).toNat = cnt c n + (!c.testBit b).toNat := by
  induction n with
  | zero => omega
  | succ n ih =>
    rw [cnt, cnt, Nat.testBit_xor, Nat.testBit_two_pow]
    by_cases e : b = n
    · subst e
      have h1 : cnt (c ^^^ 2 ^ b) b = cnt c b := cnt_congr (fun i hi => by rw [Nat.testBit_xor, Nat.testBit_two_pow, decide_eq_false (by omega), Bool.xor_false])
      rw [h1, decide_eq_true rfl]
      cases c.testBit b <;> rfl
    · have := ih (by omega)
      rw [decide_eq_false e, Bool.xor_false]
      omega
theorem one_bit {c n : Nat} (hc : c < 2 ^ n) (h : cnt c n = 1) : ∃ i, i < n ∧ c = 2 ^ i := by
  obtain ⟨i, hi, hb⟩ := cnt_pos (c := c) (n := n) (by omega)
  refine ⟨i, hi, ?_⟩
  have h1 := cnt_flip (c := c) hi
  rw [hb, h] at h1
  have h2 : cnt (c ^^^ 2 ^ i) n = 0 := by simp only [Bool.toNat_true, Bool.not_true, Bool.toNat_false] at h1; omega
  have h3 := eq_zero_of (Nat.xor_lt_two_pow hc (Nat.pow_lt_pow_right (by omega) hi)) h2
  exact xor_zero_iff.1 h3
theorem two_bits {c n : Nat} (hc : c < 2 ^ n) (h : cnt c n = 2) : ∃ i j, i < n ∧ j < n ∧ i ≠ j ∧ c = 2 ^ i ^^^ 2 ^ j := by
  obtain ⟨i, hi, hb⟩ := cnt_pos (c := c) (n := n) (by omega)
  have h1 := cnt_flip (c := c) hi
  rw [hb, h] at h1
  have h2 : cnt (c ^^^ 2 ^ i) n = 1 := by simp only [Bool.toNat_true, Bool.not_true, Bool.toNat_false] at h1; omega
  obtain ⟨j, hj, he⟩ := one_bit (Nat.xor_lt_two_pow hc (Nat.pow_lt_pow_right (by omega) hi)) h2
  refine ⟨i, j, hi, hj, ?_, ?_⟩
  · rintro rfl
    have h3 : (c ^^^ 2 ^ i).testBit i = false := by rw [Nat.testBit_xor, hb, Nat.testBit_two_pow_self]; rfl
    rw [he, Nat.testBit_two_pow_self] at h3
    cases h3
  · have := congrArg (· ^^^ 2 ^ i) he
    simp only [xor_xor] at this
    rw [this, Nat.xor_comm]
theorem cnt_app {c n m : Nat} (hc : c < 2 ^ n) (h : n ≤ m) : cnt c m = cnt c n := by
  induction m with
  | zero => rw [show n = 0 by omega]
  | succ m ih =>
    by_cases e : n = m + 1
    · rw [e]
    · rw [cnt, ih (by omega), Nat.testBit_lt_two_pow (Nat.lt_of_lt_of_le hc (Nat.pow_le_pow_right (by omega) (by omega)))]; rfl
/-! ### The syndrome -/
/-- A position, if the bit is set. -/
def pt (p : Nat) : Bool → Nat
  | true => p
  | false => 0
def syn (c : Nat) : Nat → Nat
  | 0 => 0
  | n + 1 => syn c n ^^^ pt (n + 1) (c.testBit n)
theorem syn_zero : ∀ n, syn 0 n = 0
  | 0 => rfl
  | n + 1 => by rw [syn, syn_zero n, Nat.zero_testBit]; exact Nat.xor_zero 0
theorem syn_xor (a b : Nat) : ∀ n, syn (a ^^^ b) n = syn a n ^^^ syn b n
  | 0 => (Nat.xor_zero 0).symm
  | n + 1 => by
    rw [syn, syn, syn, syn_xor a b n, Nat.testBit_xor, xor_four]
    cases a.testBit n <;> cases b.testBit n <;> simp [pt]
theorem syn_pow (b : Nat) : ∀ n, syn (2 ^ b) n = if b < n then b + 1 else 0
  | 0 => rfl
  | n + 1 => by
    rw [syn, syn_pow b n, Nat.testBit_two_pow]
    by_cases h : b < n
    · rw [if_pos h, if_pos (show b < n + 1 by omega), show decide (b = n) = false from decide_eq_false (by omega)]; exact Nat.xor_zero _
    · rw [if_neg h]
      by_cases h2 : b = n
      · subst h2; rw [if_pos (by omega), decide_eq_true rfl]; exact Nat.zero_xor _
      · rw [if_neg (show ¬ b < n + 1 by omega), decide_eq_false h2]; exact Nat.xor_zero 0
theorem syn_lt (c : Nat) : ∀ n, n < 64 → syn c n < 64
  | 0, _ => Nat.zero_lt_succ _
  | n + 1, h => by
    rw [syn]
    have h1 := syn_lt c n (by omega)
    have h2 : pt (n + 1) (c.testBit n) < 2 ^ 6 := by cases c.testBit n <;> (unfold pt; simp only []; omega)
    exact Nat.xor_lt_two_pow (n := 6) h1 h2
/-- The parity of the positions with bit j set is bit j of the syndrome. -/
def row (c j : Nat) : Nat → Nat
  | 0 => 0
  | n + 1 => row c j n + ((n + 1).testBit j && c.testBit n).toNat
theorem row_syn (c j : Nat) : ∀ n, row c j n % 2 = ((syn c n).testBit j).toNat
  | 0 => by rw [row, syn, Nat.zero_testBit]; rfl
  | n + 1 => by
    have ih := row_syn c j n
    rw [row, syn, Nat.testBit_xor]
    have e : (pt (n + 1) (c.testBit n)).testBit j = ((n + 1).testBit j && c.testBit n) := by
      cases c.testBit n with
      | true => rw [pt, Bool.and_true]
      | false => rw [pt, Nat.zero_testBit, Bool.and_false]
    rw [e]
    cases ((n + 1).testBit j && c.testBit n) <;> cases hs : (syn c n).testBit j <;> rw [hs] at ih <;> simp only [Bool.toNat_true, Bool.toNat_false, Bool.xor_false, Bool.xor_true, Bool.not_true, Bool.not_false] at ih ⊢ <;> omega
/-! ### The data bits -/
def chk (p : Nat) : Bool := p == 1 || p == 2 || p == 4 || p == 8 || p == 16 || p == 32
/-- The word at the data positions from 39 - k to 38. -/
def dat (c : Nat) : Nat → Nat
  | 0 => 0
  | k + 1 => if chk (38 - k) then dat c k else 2 * dat c k + (c.testBit (37 - k)).toNat
theorem dbl_xor (x y : Nat) (p q : Bool) : (2 * x + p.toNat) ^^^ (2 * y + q.toNat) = 2 * (x ^^^ y) + (p ^^ q).toNat := by
  apply Nat.eq_of_testBit_eq
  intro i
  cases i with
  | zero =>
    rw [Nat.testBit_xor, Nat.testBit_zero, Nat.testBit_zero, Nat.testBit_zero]
    cases p <;> cases q <;> simp <;> omega
  | succ i =>
    rw [Nat.testBit_xor, Nat.testBit_succ, Nat.testBit_succ, Nat.testBit_succ]
    have hp : p.toNat ≤ 1 := Bool.toNat_le _
    have hq : q.toNat ≤ 1 := Bool.toNat_le _
    have hpq : (p ^^ q).toNat ≤ 1 := Bool.toNat_le _
    rw [show (2 * x + p.toNat) / 2 = x by omega, show (2 * y + q.toNat) / 2 = y by omega, show (2 * (x ^^^ y) + (p ^^ q).toNat) / 2 = x ^^^ y by omega, Nat.testBit_xor]
theorem dat_xor (a b : Nat) : ∀ k, dat (a ^^^ b) k = dat a k ^^^ dat b k
  | 0 => (Nat.xor_zero 0).symm
  | k + 1 => by
    rw [dat, dat, dat]
    cases chk (38 - k) with
    | true => simp only [if_true]; exact dat_xor a b k
    | false => simp only [if_neg (show ¬ (false = true) by decide)]; rw [dat_xor a b k, Nat.testBit_xor, dbl_xor]
theorem dat_zero : ∀ k, dat 0 k = 0
  | 0 => rfl
  | k + 1 => by rw [dat, dat_zero k, Nat.zero_testBit]; cases chk (38 - k) <;> rfl
/-- Numbers of data positions. -/
def dn : Nat → Nat
  | 0 => 0
  | k + 1 => if chk (38 - k) then dn k else dn k + 1
theorem dat_lt (c : Nat) : ∀ k, dat c k < 2 ^ dn k
  | 0 => Nat.zero_lt_succ _
  | k + 1 => by
    have ih := dat_lt c k
    have hb : (c.testBit (37 - k)).toNat ≤ 1 := Bool.toNat_le _
    rw [dat, dn]
    cases chk (38 - k) with
    | true => simpa using ih
    | false => simp only [if_neg (show ¬ (false = true) by decide)]; rw [Nat.pow_succ]; omega
theorem dat_bound (c : Nat) : dat c 38 < 4294967296 := dat_lt c 38
/-- Where no data bit is set, the data are 0, and the other way round. -/
theorem dat_none {c : Nat} : ∀ {k}, k ≤ 38 → dat c k = 0 → ∀ p, 39 - k ≤ p → p ≤ 38 → chk p = false → c.testBit (p - 1) = false
  | 0, _, _, p, h1, h2, _ => by omega
  | k + 1, hk, h, p, h1, h2, hp => by
    rw [dat] at h
    cases hc : chk (38 - k) with
    | true =>
      rw [hc] at h
      simp only [if_true] at h
      by_cases e : p = 38 - k
      · rw [e, hc] at hp; cases hp
      · exact dat_none (by omega) h p (by omega) h2 hp
    | false =>
      rw [hc] at h
      simp only [if_neg (show ¬ (false = true) by decide)] at h
      have h3 : dat c k = 0 := by omega
      have h4 : (c.testBit (37 - k)).toNat = 0 := by omega
      by_cases e : p = 38 - k
      · rw [e, show 38 - k - 1 = 37 - k by omega]
        cases hb : c.testBit (37 - k) with
        | false => rfl
        | true => rw [hb] at h4; cases h4
      · exact dat_none (by omega) h3 p (by omega) h2 hp
theorem dat_congr {a b : Nat} : ∀ {k}, k ≤ 38 → (∀ p, 1 ≤ p → p ≤ 38 → chk p = false → a.testBit (p - 1) = b.testBit (p - 1)) → dat a k = dat b k
  | 0, _, _ => rfl
  | k + 1, hk, h => by
    rw [dat, dat, dat_congr (by omega) h]
    cases hc : chk (38 - k) with
    | true => rfl
    | false => rw [show 37 - k = 38 - k - 1 by omega, h (38 - k) (by omega) (by omega) hc]
end E
end Go.Proofs.YtnoohhpajoaaoaaDoor
