/-
  Two correlations in either order; a history in which the counter errs by no more than its drift says.
-/
import Derived.Test.YtlmbpbhdbgadjaaKRef2
namespace Go.Proofs.Ytlmbpbhdbgadjaa
namespace K
set_option linter.unusedVariables false
def i2 (lo hi xl xh : Int) : Int × Int × Int := if mn hi xh < mx lo xl then (0, 0, 22) else (mx lo xl, mn hi xh, 0)
theorem cor_pls {lo hi s r q now d : Int} (h : pls s r q now = true) : cor lo hi s r q now d = i2 lo hi (alo q (now - r) d) (ahi (arr q (r - s) d) (now - r) d) := by
  unfold cor i2; rw [if_pos h]
theorem pls_of {s r q now : Int} (h0 : 0 ≤ s) (h1 : s ≤ r) (h2 : r ≤ now) (h3 : 0 ≤ q) (h4 : q ≤ 1000000) : pls s r q now = true := by
  simp [pls, h0, h1, h2, h3, h4]
theorem i2_err {lo hi xl xh : Int} (h : mn hi xh < mx lo xl) : i2 lo hi xl xh = (0, 0, 22) := if_pos h
theorem i2_ok {lo hi xl xh : Int} (h : ¬ mn hi xh < mx lo xl) : i2 lo hi xl xh = (mx lo xl, mn hi xh, 0) := if_neg h
theorem order (lo hi xl xh yl yh : Int) : (if (i2 lo hi xl xh).2.2 = 0 then i2 (i2 lo hi xl xh).1 (i2 lo hi xl xh).2.1 yl yh else i2 lo hi xl xh) = (if (i2 lo hi yl yh).2.2 = 0 then i2 (i2 lo hi yl yh).1 (i2 lo hi yl yh).2.1 xl xh else i2 lo hi yl yh) := by
  by_cases hx : mn hi xh < mx lo xl
  · by_cases hy : mn hi yh < mx lo yl
    · rw [i2_err hx, i2_err hy]; rfl
    · rw [i2_err hx, i2_ok hy, if_neg (by decide), if_pos rfl]
      dsimp only
      rw [i2_err (by unfold mn mx at *; (repeat' split at *) <;> omega)]
  · by_cases hy : mn hi yh < mx lo yl
    · rw [i2_ok hx, i2_err hy, if_pos rfl, if_neg (by decide)]
      dsimp only
      rw [i2_err (by unfold mn mx at *; (repeat' split at *) <;> omega)]
    · rw [i2_ok hx, i2_ok hy, if_pos rfl, if_pos rfl]
      dsimp only
      have e1 : mn (mn hi xh) yh = mn (mn hi yh) xh := by unfold mn; (repeat' split) <;> omega
      have e2 : mx (mx lo xl) yl = mx (mx lo yl) xl := by unfold mx; (repeat' split) <;> omega
      unfold i2
      rw [e1, e2]
end K
end Go.Proofs.Ytlmbpbhdbgadjaa
