/-
  Around of the shared helpers (perigeeref01), for any seat.
-/
import Derived.Test.YtojflmejkigdiaaRows
import Derived.Test.YtojflmejkigdiaaKit
import Derived.Deep.DeepCutAuto
namespace Go.Proofs.Ytojflmejkigdiaa
open Go.RowKit
namespace H
set_option linter.unusedVariables false
/-- n reduced modulo m, never negative. -/
def around (n m : Int) : Int := (if n < 0 then -(n + 1) else n) % m
theorem around_lt (n : Int) {m : Int} (h : 1 ≤ m) : 0 ≤ around n m ∧ around n m < m :=
  ⟨Int.emod_nonneg _ (by omega), Int.emod_lt_of_pos _ (by omega)⟩
theorem around_nat (n : Int) {m : Nat} (h : 1 ≤ m) : ∃ k : Nat, around n m = k ∧ k < m := by
  have := around_lt n (m := m) (by omega)
  exact ⟨(around n m).toNat, by omega, by omega⟩
set_option maxHeartbeats 1000000 in
theorem around_any (n m : Int) (h0 : -9223372036854775808 ≤ n) (h1 : n ≤ 9223372036854775807) (hm : 1 ≤ m) (hm2 : m ≤ 9223372036854775807) (w : World) :
    Calls Try.prog 17 #[.int .i64 n, .int .i64 m] w fun e w' => e = .returned (.int .i64 (around n m)) ∧ w' = w := by
  have hz : ¬ (m = 0) := by omega
  by_cases hn : n < 0
  · have e : around n m = (-(n + 1)) % m := by unfold around; rw [if_pos hn]
    rw [e]
    have e2 : (-(n + 1)).tmod m = (-(n + 1)) % m := Int.tmod_eq_emod_of_nonneg (by omega)
    have hb := Int.emod_nonneg (-(n + 1)) (show m ≠ 0 by omega)
    have hb2 := Int.emod_lt_of_pos (-(n + 1)) (show 0 < m by omega)
    have e3 : -1 - n = -(n + 1) := by omega
    clear e
    go_enter Try.func17, Try.ntmps17
    go_wp2_with fail
    go_ret
    exact ⟨rfl, rfl⟩
  · have e : around n m = n % m := by unfold around; rw [if_neg hn]
    rw [e]
    have hn2 : 0 ≤ n := by omega
    have e2 : n.tmod m = n % m := Int.tmod_eq_emod_of_nonneg hn2
    have hb := Int.emod_nonneg n (show m ≠ 0 by omega)
    have hb2 := Int.emod_lt_of_pos n (show 0 < m by omega)
    clear e
    go_enter Try.func17, Try.ntmps17
    go_wp2_with fail
    go_ret
    exact ⟨rfl, rfl⟩
end H
end Go.Proofs.Ytojflmejkigdiaa
