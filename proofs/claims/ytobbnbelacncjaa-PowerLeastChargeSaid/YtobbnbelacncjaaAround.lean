/-
  Around of the shared helpers (perigeeref01), for any seat.
-/
import Derived.Test.YtobbnbelacncjaaRows
import Derived.Test.YtobbnbelacncjaaKit
import Derived.Deep.DeepCutAuto
namespace Go.Proofs.Ytobbnbelacncjaa
open Go.RowKit
namespace H
set_option linter.unusedVariables false
/-- n reduced modulo m, never negative. -/
def around (n m : Int) : Int := (if n < 0 then -(n + 1) else n) % m
theorem around_lt (n : Int) {m : Int} (h : 1 ≤ m) : 0 ≤ around n m ∧ around n m < m :=
  ⟨Int.emod_nonneg _ (by omega), Int.emod_lt_of_pos _ (by omega)⟩
theorem around_nat (n : Int) {m : Nat} (h : 1 ≤ m) : ∃ k : Nat, around n m = k ∧ k < m := by
  have := around_lt n (m := m) (by omega)
  exact ⟨(around n m).toNat, by omega, by omega⟩
end H
end Go.Proofs.Ytobbnbelacncjaa
