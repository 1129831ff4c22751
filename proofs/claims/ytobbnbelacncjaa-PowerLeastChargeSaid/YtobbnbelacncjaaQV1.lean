/-
  Windows: the functions of one or two windows.
-/
import Derived.Test.YtobbnbelacncjaaQMath
import Derived.Test.YtobbnbelacncjaaQRef01
import Derived.Deep.DeepCutAuto
import Derived.Deep.RegionHeld3
import Derived.Deep.LoopGhost
import Derived.Deep.QuietTactic
namespace Go.Proofs.Ytobbnbelacncjaa
open Go.RowKit
namespace Q
open H
set_option linter.unusedVariables false
set_option linter.unusedSimpArgs false
set_option maxRecDepth 100000
theorem ret_b {a b : Bool} (h : (a = true) ↔ (b = true)) : Ending.returned (.bool a) = .returned (.bool b) := by rw [Bool.eq_iff_iff.2 h]

set_option maxHeartbeats 2000000 in
theorem pkey_any (x : Wn) (k a b : Int) (w : World) : Calls Try.prog 48 #[x.v, .int .i64 k, .int .i64 a, .int .i64 b] w fun e w' => e = .returned (.bool (hk x k a b)) ∧ Below w.heap.size w w' := by
  unfold hk
  go_enter Try.func48, Try.ntmps48
  go_wp2_with fail
  all_goals
    go_ret
    exact ⟨by first | rfl | (refine ret_b ?_; first | (simp only [decide_eq_true_eq, decide_eq_false_iff_not, Bool.not_true, Bool.not_false, Bool.true_eq_false, Bool.false_eq_true, true_iff, false_iff, iff_true, iff_false, Bool.and_eq_true, Bool.or_eq_true, Bool.not_eq_true', Bool.or_eq_false_iff, Bool.and_eq_false_imp, Bool.not_eq_eq_eq_not, reduceCtorEq, Bool.not_eq_true, beq_iff_eq, bne_iff_ne, ne_eq, Bool.not_eq_false, beq_eq_false_iff_ne, bne_eq_false_iff_eq, Bool.false_or, Bool.true_and, Bool.or_false, Bool.and_true]; omega) | (simp only [decide_eq_true_eq, decide_eq_false_iff_not, Bool.not_true, Bool.not_false, Bool.true_eq_false, Bool.false_eq_true, true_iff, false_iff, iff_true, iff_false, Bool.and_eq_true, Bool.or_eq_true, Bool.not_eq_true', Bool.or_eq_false_iff, Bool.and_eq_false_imp, Bool.not_eq_eq_eq_not, reduceCtorEq, Bool.not_eq_true, beq_iff_eq, bne_iff_ne, ne_eq, Bool.not_eq_false, beq_eq_false_iff_ne, bne_eq_false_iff_eq, Bool.false_or, Bool.true_and, Bool.or_false, Bool.and_true] at *; first | done | omega) | omega), bel1 w _⟩
set_option maxHeartbeats 2000000 in
theorem popen_any (x : Wn) (t : Int) (w : World) : Calls Try.prog 65 #[x.v, .int .i64 t] w fun e w' => e = .returned (.bool (op x t)) ∧ Below w.heap.size w w' := by
  unfold op
  go_enter Try.func65, Try.ntmps65
  go_wp2_with fail
  all_goals
    go_ret
    exact ⟨by first | rfl | (refine ret_b ?_; first | (simp only [decide_eq_true_eq, decide_eq_false_iff_not, Bool.not_true, Bool.not_false, Bool.true_eq_false, Bool.false_eq_true, true_iff, false_iff, iff_true, iff_false, Bool.and_eq_true, Bool.or_eq_true, Bool.not_eq_true', Bool.or_eq_false_iff, Bool.and_eq_false_imp, Bool.not_eq_eq_eq_not, reduceCtorEq, Bool.not_eq_true, beq_iff_eq, bne_iff_ne, ne_eq, Bool.not_eq_false, beq_eq_false_iff_ne, bne_eq_false_iff_eq, Bool.false_or, Bool.true_and, Bool.or_false, Bool.and_true]; omega) | (simp only [decide_eq_true_eq, decide_eq_false_iff_not, Bool.not_true, Bool.not_false, Bool.true_eq_false, Bool.false_eq_true, true_iff, false_iff, iff_true, iff_false, Bool.and_eq_true, Bool.or_eq_true, Bool.not_eq_true', Bool.or_eq_false_iff, Bool.and_eq_false_imp, Bool.not_eq_eq_eq_not, reduceCtorEq, Bool.not_eq_true, beq_iff_eq, bne_iff_ne, ne_eq, Bool.not_eq_false, beq_eq_false_iff_ne, bne_eq_false_iff_eq, Bool.false_or, Bool.true_and, Bool.or_false, Bool.and_true] at *; first | done | omega) | omega), bel1 w _⟩
end Q
end Go.Proofs.Ytobbnbelacncjaa
