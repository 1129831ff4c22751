/-
  Contracts of the specification's Encode and Decode.
-/
import Derived.Test.YtnoohhpajoaaoaaDoorERef2
namespace Go.Proofs.YtnoohhpajoaaoaaDoor
open Go.RowKit
namespace E
open H
set_option linter.unusedVariables false
set_option maxRecDepth 100000
theorem spr_true {v k : Nat} (h : chk (k + 1) = true) : spr v (k + 1) = spr v k := by rw [spr, h]; rfl
theorem spr_false {v k : Nat} (h : chk (k + 1) = false) : spr v (k + 1) = ((spr v k).1 + (spr v k).2 % 2 * 2 ^ k, (spr v k).2 / 2) := by rw [spr, h]; rfl
theorem cks_le (c s : Nat) : ∀ j, j ≤ 6 → cks c s j ≤ c + j * 2147483648
  | 0, _ => by rw [cks]; omega
  | j + 1, h => by
    have ih := cks_le c s j (by omega)
    have h1 : 2 ^ (2 ^ j - 1) ≤ 2 ^ 31 := Nat.pow_le_pow_right (by omega) (by
      have : 2 ^ j ≤ 2 ^ 5 := Nat.pow_le_pow_right (by omega) (by omega)
      omega)
    have h2 : (s.testBit j).toNat * 2 ^ (2 ^ j - 1) ≤ 1 * 2 ^ (2 ^ j - 1) := Nat.mul_le_mul_right _ (Bool.toNat_le _)
    rw [cks]
    omega
theorem row_le (c j : Nat) : ∀ n, row c j n ≤ n
  | 0 => Nat.le_refl _
  | n + 1 => by
    have := row_le c j n
    have : ((n + 1).testBit j && c.testBit n).toNat ≤ 1 := Bool.toNat_le _
    rw [row]; omega
end E
end Go.Proofs.YtnoohhpajoaaoaaDoor
