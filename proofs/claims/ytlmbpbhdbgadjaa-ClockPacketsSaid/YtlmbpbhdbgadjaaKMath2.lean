/-
  The mathematics of the laws of clock.
-/
import Derived.Test.YtlmbpbhdbgadjaaKRef2
namespace Go.Proofs.Ytlmbpbhdbgadjaa
namespace K
set_option linter.unusedVariables false
theorem splits (lo hi a b d : Int) (ht : 0 ≤ lo ∧ lo ≤ hi ∧ hi ≤ 1000000) (ha : 0 ≤ a) (hb : 0 ≤ b) (hd : 1 ≤ d) :
    alo (alo lo a d) b d ≤ alo lo (a + b) d ∧ ahi hi (a + b) d ≤ ahi (ahi hi a d) b d ∧ alo lo (a + b) d ≤ ahi hi (a + b) d := by
  have c1 := cd_add (a := a) (b := b) hd
  have c2 := cd_nonneg ha hd
  have c3 := cd_nonneg hb hd
  have c4 := cd_self ha hd
  have c5 := cd_self hb hd
  have c6 := cd_nonneg (show 0 ≤ a + b by omega) hd
  unfold alo ahi
  generalize cd (a + b) d = e at *
  generalize cd a d = f at *
  generalize cd b d = g at *
  refine ⟨lim_mono ?_, ?_, lim_mono (by omega)⟩
  · have := lim_le (a := lo + a - f) (Int.le_refl _) (by omega); omega
  · by_cases h : hi + a + f ≤ 1000000
    · have : lim (hi + a + f) = hi + a + f := by unfold lim; (repeat' split) <;> omega
      rw [this]
      exact lim_mono (by omega)
    · have h1 : lim (hi + a + f) = 1000000 := by unfold lim; (repeat' split) <;> omega
      have h2 : lim (1000000 + b + g) = 1000000 := by unfold lim; (repeat' split) <;> omega
      rw [h1, h2]
      exact (lim_bd _).2
end K
end Go.Proofs.Ytlmbpbhdbgadjaa
