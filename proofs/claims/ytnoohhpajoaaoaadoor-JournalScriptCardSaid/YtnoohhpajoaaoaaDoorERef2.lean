/-
  Contracts of the specification's Syndrome, Data, Flip, Distance.
-/
import Derived.Test.YtnoohhpajoaaoaaDoorERef
import Derived.Laws.BitsAllLaws
namespace Go.Proofs.YtnoohhpajoaaoaaDoor
open Go.RowKit
namespace E
open H
set_option linter.unusedVariables false
set_option maxRecDepth 100000
theorem i64_xor {a b : Nat} (ha : a < 64) (hb : b < 64) : bits .xor .i64 (a : Int) (b : Int) = ((a ^^^ b : Nat) : Int) := by
  have hx : a ^^^ b < 2 ^ 6 := Nat.xor_lt_two_pow (n := 6) ha hb
  show IntKind.i64.wrap ((BitVec.ofInt 64 (a : Int) ^^^ BitVec.ofInt 64 (b : Int)).toNat : Int) = _
  rw [BitVec.toNat_xor, ofInt_u64 a (by omega), ofInt_u64 b (by omega)]
  generalize a ^^^ b = x at *
  simp [IntKind.wrap, IntKind.bits, IntKind.signed]
  omega
theorem dat_step (c : Nat) {m k : Nat} (h : k + m = 37) : dat c (k + 1) = if chk (m + 1) then dat c k else 2 * dat c k + (c.testBit m).toNat := by
  have e1 : 38 - k = m + 1 := by omega
  have e2 : 37 - k = m := by omega
  rw [dat, e1, e2]
theorem flip_set {c b : Nat} (hb : b < 64) (h : c.testBit b = true) : flip c b = c - 2 ^ b := by rw [flip_in c hb, xor_eq_sub h]
theorem flip_clear {c b : Nat} (hb : b < 64) (h : c.testBit b = false) : flip c b = c + 2 ^ b := by rw [flip_in c hb, xor_eq_add b c h]
theorem dist_step (a b k : Nat) : cnt (a ^^^ b) (k + 1) = cnt (a ^^^ b) k + (if a / 2 ^ k % 2 = b / 2 ^ k % 2 then 0 else 1) := by
  rw [cnt, Nat.testBit_xor, ← bit_toNat, ← bit_toNat]
  cases a.testBit k <;> cases b.testBit k <;> rfl
end E
end Go.Proofs.YtnoohhpajoaaoaaDoor
