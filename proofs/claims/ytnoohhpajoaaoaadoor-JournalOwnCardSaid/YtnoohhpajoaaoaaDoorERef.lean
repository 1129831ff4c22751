/-
  Contracts of the specification's functions of layer 5: Bit, power, check, Count, Syndrome, Data.
-/
import Derived.Test.YtnoohhpajoaaoaaDoorRows
import Derived.Test.YtnoohhpajoaaoaaDoorKit
import Derived.Test.YtnoohhpajoaaoaaDoorECode
import Derived.Deep.DeepCutAuto
import Derived.Deep.RegionHeld3
import Derived.Deep.LoopGhost
namespace Go.Proofs.YtnoohhpajoaaoaaDoor
open Go.RowKit
namespace E
open H
set_option linter.unusedVariables false
set_option maxRecDepth 100000

theorem u64_range {a : Int} (h : (Lit.int .u64 a).wf = true) : 0 ≤ a ∧ a < 18446744073709551616 := by
  simp [Lit.wf, IntKind.min, IntKind.max, IntKind.signed, IntKind.bits] at h
  omega
theorem halves (c k : Nat) : (c / 2 ^ k) / 2 = c / 2 ^ (k + 1) := by rw [Nat.pow_succ, Nat.div_div_eq_div_mul]
theorem half_lt {c k : Nat} (h : c < 18446744073709551616) : c / 2 ^ k < 18446744073709551616 := Nat.lt_of_le_of_lt (Nat.div_le_self _ _) h
theorem pow_lt64 {k : Nat} (h : k < 64) : 2 ^ k < 18446744073709551616 := by
  have : (2 : Nat) ^ k < 2 ^ 64 := Nat.pow_lt_pow_right (by omega) h
  exact this
theorem chk_true {p : Nat} (h : p = 1 ∨ p = 2 ∨ p = 4 ∨ p = 8 ∨ p = 16 ∨ p = 32) : chk p = true := by rcases h with rfl | rfl | rfl | rfl | rfl | rfl <;> rfl
end E
end Go.Proofs.YtnoohhpajoaaoaaDoor
