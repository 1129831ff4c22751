/-
  Mathematics of counting the set bits of a 64-bit number in parallel (math/bits.OnesCount64): the steps work on each byte for itself, and the bytes' sums are added up.
-/
import Derived.Test.YtnoohhpajoaaoaaDoorEMath
namespace Go.Proofs.YtnoohhpajoaaoaaDoor
namespace E
set_option linter.unusedVariables false
theorem byte_div (q b : Nat) (hb : b < 256) : (256 * q + b) / 256 = q ∧ (256 * q + b) % 256 = b := by omega
/-- 'and' of a low byte and the rest. -/
theorem and_cons (q b m c : Nat) (hb : b < 256) (hc : c < 256) : (256 * q + b) &&& (256 * m + c) = 256 * (q &&& m) + (b &&& c) := by
  have hx : b &&& c < 2 ^ 8 := Nat.lt_of_le_of_lt Nat.and_le_left hb
  apply Nat.eq_of_testBit_eq
  intro j
  rw [Nat.testBit_and, show 256 = 2 ^ 8 from rfl, Nat.testBit_two_pow_mul_add _ hb, Nat.testBit_two_pow_mul_add _ hc, Nat.testBit_two_pow_mul_add _ hx]
  by_cases h : j < 8
  · rw [if_pos h, if_pos h, if_pos h, Nat.testBit_and]
  · rw [if_neg h, if_neg h, if_neg h, Nat.testBit_and]
/-- A shifted number and a mask whose low byte has only bits that come out of the same byte. -/
theorem shr_cons (k q b m c : Nat) (hk : k ≤ 8) (hb : b < 256) (hc : c < 2 ^ (8 - k)) : ((256 * q + b) / 2 ^ k) &&& (256 * m + c) = 256 * ((q / 2 ^ k) &&& m) + ((b / 2 ^ k) &&& c) := by
  have hc8 : c < 2 ^ 8 := Nat.lt_of_lt_of_le hc (Nat.pow_le_pow_right (by omega) (by omega))
  have hx : b / 2 ^ k &&& c < 2 ^ 8 := Nat.lt_of_le_of_lt Nat.and_le_right hc8
  apply Nat.eq_of_testBit_eq
  intro j
  rw [Nat.testBit_and, Nat.testBit_div_two_pow, show 256 = 2 ^ 8 from rfl, Nat.testBit_two_pow_mul_add _ hb, Nat.testBit_two_pow_mul_add _ hc8, Nat.testBit_two_pow_mul_add _ hx]
  by_cases h : j < 8
  · rw [if_pos h, if_pos h, Nat.testBit_and, Nat.testBit_div_two_pow]
    by_cases h2 : k + j < 8
    · rw [if_pos (by omega)]
    · have : c.testBit j = false := Nat.testBit_lt_two_pow (Nat.lt_of_lt_of_le hc (Nat.pow_le_pow_right (by omega) (by omega)))
      rw [this, Bool.and_false, Bool.and_false]
  · rw [if_neg h, if_neg h, Nat.testBit_and, Nat.testBit_div_two_pow, if_neg (by omega), show j + k - 8 = j - 8 + k by omega]
/-- The byte c, n times. -/
def rep (c : Nat) : Nat → Nat
  | 0 => 0
  | n + 1 => 256 * rep c n + c
/-- The first three steps. -/
def pop1 (m x : Nat) : Nat := (x / 2 ^ 1 &&& m) + (x &&& m)
def pop2 (m x : Nat) : Nat := (x / 2 ^ 2 &&& m) + (x &&& m)
def pop4 (m x : Nat) : Nat := (x / 2 ^ 4 + x) &&& m
theorem pop1_cons (q b m : Nat) (hb : b < 256) : pop1 (256 * m + 85) (256 * q + b) = 256 * pop1 m q + pop1 85 b := by
  unfold pop1
  rw [shr_cons 1 q b m 85 (by omega) hb (by decide), and_cons q b m 85 hb (by decide)]
  omega
theorem pop2_cons (q b m : Nat) (hb : b < 256) : pop2 (256 * m + 51) (256 * q + b) = 256 * pop2 m q + pop2 51 b := by
  unfold pop2
  rw [shr_cons 2 q b m 51 (by omega) hb (by decide), and_cons q b m 51 hb (by decide)]
  omega
theorem pop4_cons (q b m : Nat) (hb : b < 69) (hq : q % 16 < 5) : pop4 (256 * m + 15) (256 * q + b) = 256 * pop4 m q + pop4 15 b := by
  unfold pop4
  have e : (256 * q + b) / 2 ^ 4 + (256 * q + b) = 256 * (q / 2 ^ 4 + q) + (16 * (q % 16) + (b / 2 ^ 4 + b)) := by omega
  have h15 : ∀ x, x &&& 15 = x % 16 := fun x => Nat.and_two_pow_sub_one_eq_mod x 4
  rw [e, and_cons _ _ _ _ (by omega) (by decide), h15, h15]
  omega
/-- The three steps over n bytes. -/
def pops (n x : Nat) : Nat := pop4 (rep 15 n) (pop2 (rep 51 n) (pop1 (rep 85 n) x))
theorem byte_facts (b : Nat) (hb : b < 256) : pop1 85 b < 256 ∧ pop2 51 (pop1 85 b) < 69 ∧ pop2 51 (pop1 85 b) % 16 < 5 ∧ pop4 15 (pop2 51 (pop1 85 b)) = cnt b 8 := by
  have h : ∀ b : Fin 256, pop1 85 b.val < 256 ∧ pop2 51 (pop1 85 b.val) < 69 ∧ pop2 51 (pop1 85 b.val) % 16 < 5 ∧ pop4 15 (pop2 51 (pop1 85 b.val)) = cnt b.val 8 := by decide +kernel
  exact h ⟨b, hb⟩
theorem low_pops (n x : Nat) : pop2 (rep 51 n) (pop1 (rep 85 n) x) % 16 < 5 := by
  cases n with
  | zero => simp [rep, pop1, pop2]
  | succ n =>
    obtain ⟨h1, h2, h3, h4⟩ := byte_facts (x % 256) (Nat.mod_lt _ (by omega))
    rw [rep, rep, show x = 256 * (x / 256) + x % 256 by omega, pop1_cons _ _ _ (Nat.mod_lt _ (by omega)), pop2_cons _ _ _ h1]
    omega
theorem pops_cons (n q b : Nat) (hb : b < 256) : pops (n + 1) (256 * q + b) = 256 * pops n q + cnt b 8 := by
  obtain ⟨h1, h2, h3, h4⟩ := byte_facts b hb
  unfold pops
  rw [rep, rep, rep, pop1_cons _ _ _ hb, pop2_cons _ _ _ h1, pop4_cons _ _ _ h2 (low_pops n q), h4]
/-- Bits of a low byte and the rest. -/
theorem cnt_cons (q b : Nat) (hb : b < 256) : ∀ n, cnt (256 * q + b) (8 + n) = cnt b 8 + cnt q n
  | 0 => by
    rw [Nat.add_zero, show cnt q 0 = 0 from rfl, Nat.add_zero]
    refine cnt_congr (fun i hi => ?_)
    rw [show 256 = 2 ^ 8 from rfl, Nat.testBit_two_pow_mul_add _ hb, if_pos hi]
  | n + 1 => by
    have e1 : cnt q (n + 1) = cnt q n + (q.testBit n).toNat := rfl
    have e2 : cnt (256 * q + b) (8 + (n + 1)) = cnt (256 * q + b) (8 + n) + ((256 * q + b).testBit (8 + n)).toNat := rfl
    have e3 : (256 * q + b).testBit (8 + n) = q.testBit n := by
      rw [show 256 = 2 ^ 8 from rfl, Nat.testBit_two_pow_mul_add _ hb, if_neg (by omega), Nat.add_sub_cancel_left]
    rw [e2, e1, e3, cnt_cons q b hb n]
    omega
theorem pops_nil (x : Nat) : pops 0 x = 0 := by simp [pops, pop4, rep]
/-- Adding up eight bytes. -/
theorem dv {lo hi : Nat} (h : lo < 256) : (lo + 256 * hi) / 256 = hi := by omega
theorem dv2 {lo lo2 hi : Nat} (h : lo < 256) (h2 : lo2 < 256) : (lo + 256 * (lo2 + 256 * hi)) / 65536 = hi := by omega
theorem dv4 {lo lo2 lo3 lo4 hi : Nat} (h : lo < 256) (h2 : lo2 < 256) (h3 : lo3 < 256) (h4 : lo4 < 256) : (lo + 256 * (lo2 + 256 * (lo3 + 256 * (lo4 + 256 * hi)))) / 4294967296 = hi := by omega
theorem add_up {p0 p1 p2 p3 p4 p5 p6 p7 : Nat} (h0 : p0 ≤ 8) (h1 : p1 ≤ 8) (h2 : p2 ≤ 8) (h3 : p3 ≤ 8) (h4 : p4 ≤ 8) (h5 : p5 ≤ 8) (h6 : p6 ≤ 8) (h7 : p7 ≤ 8) {x : Nat}
    (hx : x = p0 + 256 * (p1 + 256 * (p2 + 256 * (p3 + 256 * (p4 + 256 * (p5 + 256 * (p6 + 256 * p7))))))) :
    x + x / 256 ≤ 590980682948550928 ∧ (x + x / 256) + (x + x / 256) / 65536 ≤ 1000000000000000000 ∧ ((x + x / 256) + (x + x / 256) / 65536 + ((x + x / 256) + (x + x / 256) / 65536) / 4294967296) % 128 = p0 + p1 + p2 + p3 + p4 + p5 + p6 + p7 := by
  have dx : x / 256 = p1 + 256 * (p2 + 256 * (p3 + 256 * (p4 + 256 * (p5 + 256 * (p6 + 256 * p7))))) := by rw [hx]; exact dv (by omega)
  have ey : x + x / 256 = (p0 + p1) + 256 * ((p1 + p2) + 256 * ((p2 + p3) + 256 * ((p3 + p4) + 256 * ((p4 + p5) + 256 * ((p5 + p6) + 256 * ((p6 + p7) + 256 * p7)))))) := by rw [dx, hx]; omega
  generalize x + x / 256 = y at *
  clear dx hx
  have dy : y / 65536 = (p2 + p3) + 256 * ((p3 + p4) + 256 * ((p4 + p5) + 256 * ((p5 + p6) + 256 * ((p6 + p7) + 256 * p7)))) := by rw [ey]; exact dv2 (by omega) (by omega)
  have ez : y + y / 65536 = (p0 + p1 + p2 + p3) + 256 * ((p1 + p2 + p3 + p4) + 256 * ((p2 + p3 + p4 + p5) + 256 * ((p3 + p4 + p5 + p6) + 256 * ((p4 + p5 + p6 + p7) + 256 * ((p5 + p6 + p7) + 256 * ((p6 + p7) + 256 * p7)))))) := by rw [dy, ey]; omega
  refine ⟨by omega, by omega, ?_⟩
  generalize y + y / 65536 = z at *
  clear dy ey
  have dz : z / 4294967296 = (p4 + p5 + p6 + p7) + 256 * ((p5 + p6 + p7) + 256 * ((p6 + p7) + 256 * p7)) := by rw [ez]; exact dv4 (by omega) (by omega) (by omega) (by omega)
  have es : z + z / 4294967296 = (p0 + p1 + p2 + p3 + p4 + p5 + p6 + p7) + 128 * (2 * ((p1 + p2 + p3 + p4 + p5 + p6 + p7) + 256 * ((p2 + p3 + p4 + p5 + p6 + p7) + 256 * ((p3 + p4 + p5 + p6 + p7) + 256 * ((p4 + p5 + p6 + p7) + 256 * ((p5 + p6 + p7) + 256 * ((p6 + p7) + 256 * p7))))))) := by rw [dz, ez]; omega
  rw [es, Nat.add_mul_mod_self_left, Nat.mod_eq_of_lt (by omega)]
theorem pop_all (x : Nat) (hx : x < 18446744073709551616) :
    pops 8 x + pops 8 x / 256 ≤ 590980682948550928 ∧ pops 8 x + pops 8 x / 256 + (pops 8 x + pops 8 x / 256) / 65536 ≤ 1000000000000000000 ∧
    (pops 8 x + pops 8 x / 256 + (pops 8 x + pops 8 x / 256) / 65536 + (pops 8 x + pops 8 x / 256 + (pops 8 x + pops 8 x / 256) / 65536) / 4294967296) % 128 = cnt x 64 := by
  have step : ∀ n x, pops (n + 1) x = 256 * pops n (x / 256) + cnt (x % 256) 8 ∧ cnt x (8 + 8 * n) = cnt (x % 256) 8 + cnt (x / 256) (8 * n) := fun n x => by
    have h := Nat.mod_lt x (show 256 > 0 by omega)
    have e : 256 * (x / 256) + x % 256 = x := by omega
    have a := pops_cons n (x / 256) (x % 256) h
    have b := cnt_cons (x / 256) (x % 256) h (8 * n)
    rw [e] at a b
    exact ⟨a, b⟩
  have l : ∀ x, cnt (x % 256) 8 ≤ 8 := fun x => cnt_le _ _
  obtain ⟨a7, b7⟩ := step 7 x
  obtain ⟨a6, b6⟩ := step 6 (x / 256)
  obtain ⟨a5, b5⟩ := step 5 (x / 256 / 256)
  obtain ⟨a4, b4⟩ := step 4 (x / 256 / 256 / 256)
  obtain ⟨a3, b3⟩ := step 3 (x / 256 / 256 / 256 / 256)
  obtain ⟨a2, b2⟩ := step 2 (x / 256 / 256 / 256 / 256 / 256)
  obtain ⟨a1, b1⟩ := step 1 (x / 256 / 256 / 256 / 256 / 256 / 256)
  obtain ⟨a0, b0⟩ := step 0 (x / 256 / 256 / 256 / 256 / 256 / 256 / 256)
  have c0 : cnt (x / 256 / 256 / 256 / 256 / 256 / 256 / 256 / 256) (8 * 0) = 0 := rfl
  rw [pops_nil] at a0
  have l0 := l x
  have l1 := l (x / 256)
  have l2 := l (x / 256 / 256)
  have l3 := l (x / 256 / 256 / 256)
  have l4 := l (x / 256 / 256 / 256 / 256)
  have l5 := l (x / 256 / 256 / 256 / 256 / 256)
  have l6 := l (x / 256 / 256 / 256 / 256 / 256 / 256)
  have l7 := l (x / 256 / 256 / 256 / 256 / 256 / 256 / 256)
  have e8 : pops 8 x = cnt (x % 256) 8 + 256 * (cnt (x / 256 % 256) 8 + 256 * (cnt (x / 256 / 256 % 256) 8 + 256 * (cnt (x / 256 / 256 / 256 % 256) 8 + 256 * (cnt (x / 256 / 256 / 256 / 256 % 256) 8 + 256 * (cnt (x / 256 / 256 / 256 / 256 / 256 % 256) 8 + 256 * (cnt (x / 256 / 256 / 256 / 256 / 256 / 256 % 256) 8 + 256 * cnt (x / 256 / 256 / 256 / 256 / 256 / 256 / 256 % 256) 8)))))) := by
    rw [show pops 8 x = _ from a7, show pops 7 _ = _ from a6, show pops 6 _ = _ from a5, show pops 5 _ = _ from a4, show pops 4 _ = _ from a3, show pops 3 _ = _ from a2, show pops 2 _ = _ from a1, show pops 1 _ = _ from a0]
    simp only [Nat.mul_zero, Nat.zero_add, Nat.add_comm]
  obtain ⟨g1, g2, g3⟩ := add_up l0 l1 l2 l3 l4 l5 l6 l7 e8
  refine ⟨g1, g2, g3.trans ?_⟩
  rw [show cnt x 64 = _ from b7, show cnt _ 56 = _ from b6, show cnt _ 48 = _ from b5, show cnt _ 40 = _ from b4, show cnt _ 32 = _ from b3, show cnt _ 24 = _ from b2, show cnt _ 16 = _ from b1, show cnt _ 8 = _ from b0, c0]
  simp only [Nat.add_assoc, Nat.add_zero]
end E
end Go.Proofs.YtnoohhpajoaaoaaDoor
