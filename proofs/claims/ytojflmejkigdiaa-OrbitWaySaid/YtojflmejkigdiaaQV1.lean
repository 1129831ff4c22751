/-
  Windows: the functions of one or two windows.
-/
import Derived.Test.YtojflmejkigdiaaQMath
import Derived.Test.YtojflmejkigdiaaQRef01
import Derived.Deep.DeepCutAuto
import Derived.Deep.RegionHeld3
import Derived.Deep.LoopGhost
import Derived.Deep.QuietTactic
namespace Go.Proofs.Ytojflmejkigdiaa
open Go.RowKit
namespace Q
open H
set_option linter.unusedVariables false
set_option linter.unusedSimpArgs false
set_option maxRecDepth 100000
theorem ret_b {a b : Bool} (h : (a = true) ↔ (b = true)) : Ending.returned (.bool a) = .returned (.bool b) := by rw [Bool.eq_iff_iff.2 h]

set_option maxHeartbeats 2000000 in
theorem pbelow_any (n m : Int) (w : World) : Calls Try.prog 52 #[.int .i64 n, .int .i64 m] w fun e w' => e = .returned (.bool (decide (0 ≤ n ∧ n < m))) ∧ w' = w := by
  go_enter Try.func52, Try.ntmps52
  go_wp2_with fail
  all_goals
    go_ret
    exact ⟨by first | rfl | (refine ret_b ?_; first | (simp only [decide_eq_true_eq, decide_eq_false_iff_not, Bool.not_true, Bool.not_false, Bool.true_eq_false, Bool.false_eq_true, true_iff, false_iff, iff_true, iff_false, Bool.and_eq_true, Bool.or_eq_true, Bool.not_eq_true', Bool.or_eq_false_iff, Bool.and_eq_false_imp, Bool.not_eq_eq_eq_not, reduceCtorEq, Bool.not_eq_true, beq_iff_eq, bne_iff_ne, ne_eq, Bool.not_eq_false, beq_eq_false_iff_ne, bne_eq_false_iff_eq, Bool.false_or, Bool.true_and, Bool.or_false, Bool.and_true]; omega) | (simp only [decide_eq_true_eq, decide_eq_false_iff_not, Bool.not_true, Bool.not_false, Bool.true_eq_false, Bool.false_eq_true, true_iff, false_iff, iff_true, iff_false, Bool.and_eq_true, Bool.or_eq_true, Bool.not_eq_true', Bool.or_eq_false_iff, Bool.and_eq_false_imp, Bool.not_eq_eq_eq_not, reduceCtorEq, Bool.not_eq_true, beq_iff_eq, bne_iff_ne, ne_eq, Bool.not_eq_false, beq_eq_false_iff_ne, bne_eq_false_iff_eq, Bool.false_or, Bool.true_and, Bool.or_false, Bool.and_true] at *; first | done | omega) | omega), rfl⟩
set_option maxHeartbeats 2000000 in
theorem prate_any (n : Int) (w : World) : Calls Try.prog 72 #[.int .i64 n] w fun e w' => e = .returned (.bool (decide (1 ≤ n ∧ n ≤ 1000))) ∧ w' = w := by
  go_enter Try.func72, Try.ntmps72
  go_wp2_with fail
  all_goals
    go_ret
    exact ⟨by first | rfl | (refine ret_b ?_; first | (simp only [decide_eq_true_eq, decide_eq_false_iff_not, Bool.not_true, Bool.not_false, Bool.true_eq_false, Bool.false_eq_true, true_iff, false_iff, iff_true, iff_false, Bool.and_eq_true, Bool.or_eq_true, Bool.not_eq_true', Bool.or_eq_false_iff, Bool.and_eq_false_imp, Bool.not_eq_eq_eq_not, reduceCtorEq, Bool.not_eq_true, beq_iff_eq, bne_iff_ne, ne_eq, Bool.not_eq_false, beq_eq_false_iff_ne, bne_eq_false_iff_eq, Bool.false_or, Bool.true_and, Bool.or_false, Bool.and_true]; omega) | (simp only [decide_eq_true_eq, decide_eq_false_iff_not, Bool.not_true, Bool.not_false, Bool.true_eq_false, Bool.false_eq_true, true_iff, false_iff, iff_true, iff_false, Bool.and_eq_true, Bool.or_eq_true, Bool.not_eq_true', Bool.or_eq_false_iff, Bool.and_eq_false_imp, Bool.not_eq_eq_eq_not, reduceCtorEq, Bool.not_eq_true, beq_iff_eq, bne_iff_ne, ne_eq, Bool.not_eq_false, beq_eq_false_iff_ne, bne_eq_false_iff_eq, Bool.false_or, Bool.true_and, Bool.or_false, Bool.and_true] at *; first | done | omega) | omega), rfl⟩
set_option maxHeartbeats 2000000 in
theorem rin_any (n lo hi : Int) (w : World) : Calls Try.prog 62 #[.int .i64 n, .int .i64 lo, .int .i64 hi] w fun e w' => e = .returned (.bool (decide (lo ≤ n ∧ n ≤ hi))) ∧ w' = w := by
  go_enter Try.func62, Try.ntmps62
  go_wp2_with fail
  all_goals
    go_ret
    exact ⟨by first | rfl | (refine ret_b ?_; first | (simp only [decide_eq_true_eq, decide_eq_false_iff_not, Bool.not_true, Bool.not_false, Bool.true_eq_false, Bool.false_eq_true, true_iff, false_iff, iff_true, iff_false, Bool.and_eq_true, Bool.or_eq_true, Bool.not_eq_true', Bool.or_eq_false_iff, Bool.and_eq_false_imp, Bool.not_eq_eq_eq_not, reduceCtorEq, Bool.not_eq_true, beq_iff_eq, bne_iff_ne, ne_eq, Bool.not_eq_false, beq_eq_false_iff_ne, bne_eq_false_iff_eq, Bool.false_or, Bool.true_and, Bool.or_false, Bool.and_true]; omega) | (simp only [decide_eq_true_eq, decide_eq_false_iff_not, Bool.not_true, Bool.not_false, Bool.true_eq_false, Bool.false_eq_true, true_iff, false_iff, iff_true, iff_false, Bool.and_eq_true, Bool.or_eq_true, Bool.not_eq_true', Bool.or_eq_false_iff, Bool.and_eq_false_imp, Bool.not_eq_eq_eq_not, reduceCtorEq, Bool.not_eq_true, beq_iff_eq, bne_iff_ne, ne_eq, Bool.not_eq_false, beq_eq_false_iff_ne, bne_eq_false_iff_eq, Bool.false_or, Bool.true_and, Bool.or_false, Bool.and_true] at *; first | done | omega) | omega), rfl⟩
set_option maxHeartbeats 2000000 in
theorem pkey_any (x : Wn) (k a b : Int) (w : World) : Calls Try.prog 45 #[x.v, .int .i64 k, .int .i64 a, .int .i64 b] w fun e w' => e = .returned (.bool (hk x k a b)) ∧ Below w.heap.size w w' := by
  unfold hk
  go_enter Try.func45, Try.ntmps45
  go_wp2_with fail
  all_goals
    go_ret
    exact ⟨by first | rfl | (refine ret_b ?_; first | (simp only [decide_eq_true_eq, decide_eq_false_iff_not, Bool.not_true, Bool.not_false, Bool.true_eq_false, Bool.false_eq_true, true_iff, false_iff, iff_true, iff_false, Bool.and_eq_true, Bool.or_eq_true, Bool.not_eq_true', Bool.or_eq_false_iff, Bool.and_eq_false_imp, Bool.not_eq_eq_eq_not, reduceCtorEq, Bool.not_eq_true, beq_iff_eq, bne_iff_ne, ne_eq, Bool.not_eq_false, beq_eq_false_iff_ne, bne_eq_false_iff_eq, Bool.false_or, Bool.true_and, Bool.or_false, Bool.and_true]; omega) | (simp only [decide_eq_true_eq, decide_eq_false_iff_not, Bool.not_true, Bool.not_false, Bool.true_eq_false, Bool.false_eq_true, true_iff, false_iff, iff_true, iff_false, Bool.and_eq_true, Bool.or_eq_true, Bool.not_eq_true', Bool.or_eq_false_iff, Bool.and_eq_false_imp, Bool.not_eq_eq_eq_not, reduceCtorEq, Bool.not_eq_true, beq_iff_eq, bne_iff_ne, ne_eq, Bool.not_eq_false, beq_eq_false_iff_ne, bne_eq_false_iff_eq, Bool.false_or, Bool.true_and, Bool.or_false, Bool.and_true] at *; first | done | omega) | omega), bel1 w _⟩
set_option maxHeartbeats 2000000 in
theorem rkey_any (x : Wn) (k a b : Int) (w : World) : Calls Try.prog 47 #[x.v, .int .i64 k, .int .i64 a, .int .i64 b] w fun e w' => e = .returned (.bool (hk x k a b)) ∧ Below w.heap.size w w' := by
  unfold hk
  go_enter Try.func47, Try.ntmps47
  go_wp2_with fail
  all_goals
    go_ret
    exact ⟨by first | rfl | (refine ret_b ?_; first | (simp only [decide_eq_true_eq, decide_eq_false_iff_not, Bool.not_true, Bool.not_false, Bool.true_eq_false, Bool.false_eq_true, true_iff, false_iff, iff_true, iff_false, Bool.and_eq_true, Bool.or_eq_true, Bool.not_eq_true', Bool.or_eq_false_iff, Bool.and_eq_false_imp, Bool.not_eq_eq_eq_not, reduceCtorEq, Bool.not_eq_true, beq_iff_eq, bne_iff_ne, ne_eq, Bool.not_eq_false, beq_eq_false_iff_ne, bne_eq_false_iff_eq, Bool.false_or, Bool.true_and, Bool.or_false, Bool.and_true]; omega) | (simp only [decide_eq_true_eq, decide_eq_false_iff_not, Bool.not_true, Bool.not_false, Bool.true_eq_false, Bool.false_eq_true, true_iff, false_iff, iff_true, iff_false, Bool.and_eq_true, Bool.or_eq_true, Bool.not_eq_true', Bool.or_eq_false_iff, Bool.and_eq_false_imp, Bool.not_eq_eq_eq_not, reduceCtorEq, Bool.not_eq_true, beq_iff_eq, bne_iff_ne, ne_eq, Bool.not_eq_false, beq_eq_false_iff_ne, bne_eq_false_iff_eq, Bool.false_or, Bool.true_and, Bool.or_false, Bool.and_true] at *; first | done | omega) | omega), bel1 w _⟩
set_option maxHeartbeats 2000000 in
theorem popen_any (x : Wn) (t : Int) (w : World) : Calls Try.prog 46 #[x.v, .int .i64 t] w fun e w' => e = .returned (.bool (op x t)) ∧ Below w.heap.size w w' := by
  unfold op
  go_enter Try.func46, Try.ntmps46
  go_wp2_with fail
  all_goals
    go_ret
    exact ⟨by first | rfl | (refine ret_b ?_; first | (simp only [decide_eq_true_eq, decide_eq_false_iff_not, Bool.not_true, Bool.not_false, Bool.true_eq_false, Bool.false_eq_true, true_iff, false_iff, iff_true, iff_false, Bool.and_eq_true, Bool.or_eq_true, Bool.not_eq_true', Bool.or_eq_false_iff, Bool.and_eq_false_imp, Bool.not_eq_eq_eq_not, reduceCtorEq, Bool.not_eq_true, beq_iff_eq, bne_iff_ne, ne_eq, Bool.not_eq_false, beq_eq_false_iff_ne, bne_eq_false_iff_eq, Bool.false_or, Bool.true_and, Bool.or_false, Bool.and_true]; omega) | (simp only [decide_eq_true_eq, decide_eq_false_iff_not, Bool.not_true, Bool.not_false, Bool.true_eq_false, Bool.false_eq_true, true_iff, false_iff, iff_true, iff_false, Bool.and_eq_true, Bool.or_eq_true, Bool.not_eq_true', Bool.or_eq_false_iff, Bool.and_eq_false_imp, Bool.not_eq_eq_eq_not, reduceCtorEq, Bool.not_eq_true, beq_iff_eq, bne_iff_ne, ne_eq, Bool.not_eq_false, beq_eq_false_iff_ne, bne_eq_false_iff_eq, Bool.false_or, Bool.true_and, Bool.or_false, Bool.and_true] at *; first | done | omega) | omega), bel1 w _⟩
set_option maxHeartbeats 2000000 in
theorem rbef_any (v x : Wn) (w : World) : Calls Try.prog 39 #[v.v, x.v] w fun e w' => e = .returned (.bool (bef v x)) ∧ Below w.heap.size w w' := by
  unfold bef
  go_enter Try.func39, Try.ntmps39
  go_wp2_with fail
  all_goals
    go_ret
    exact ⟨by first | rfl | (refine ret_b ?_; first | (simp only [decide_eq_true_eq, decide_eq_false_iff_not, Bool.not_true, Bool.not_false, Bool.true_eq_false, Bool.false_eq_true, true_iff, false_iff, iff_true, iff_false, Bool.and_eq_true, Bool.or_eq_true, Bool.not_eq_true', Bool.or_eq_false_iff, Bool.and_eq_false_imp, Bool.not_eq_eq_eq_not, reduceCtorEq, Bool.not_eq_true, beq_iff_eq, bne_iff_ne, ne_eq, Bool.not_eq_false, beq_eq_false_iff_ne, bne_eq_false_iff_eq, Bool.false_or, Bool.true_and, Bool.or_false, Bool.and_true]; omega) | (simp only [decide_eq_true_eq, decide_eq_false_iff_not, Bool.not_true, Bool.not_false, Bool.true_eq_false, Bool.false_eq_true, true_iff, false_iff, iff_true, iff_false, Bool.and_eq_true, Bool.or_eq_true, Bool.not_eq_true', Bool.or_eq_false_iff, Bool.and_eq_false_imp, Bool.not_eq_eq_eq_not, reduceCtorEq, Bool.not_eq_true, beq_iff_eq, bne_iff_ne, ne_eq, Bool.not_eq_false, beq_eq_false_iff_ne, bne_eq_false_iff_eq, Bool.false_or, Bool.true_and, Bool.or_false, Bool.and_true] at *; first | done | omega) | omega), bel2 w _ _⟩
end Q
end Go.Proofs.Ytojflmejkigdiaa
