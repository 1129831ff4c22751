/-
  A history in which the counter errs by no more than its drift says.
-/
import Derived.Test.YtlmbpbhdbgadjaaKMath3
namespace Go.Proofs.Ytlmbpbhdbgadjaa
namespace K
set_option linter.unusedVariables false
theorem sound {lo hi d took since sent u v z y : Int} (ht : 0 ≤ lo ∧ lo ≤ hi ∧ hi ≤ 1000000) (hd : 1 ≤ d) (h1 : 0 ≤ took) (h2 : 0 ≤ since) (h3 : 0 ≤ sent)
    (hu : 0 ≤ u ∧ u ≤ hi - lo) (hv : 0 ≤ v ∧ v ≤ 2 * cd took d) (hz : 0 ≤ z ∧ z ≤ 2 * cd since d) (hy : 0 ≤ y ∧ y ≤ took - cd took d + v) (hM : lo + u + (took - cd took d + v) + since - cd since d + z ≤ 1000000) :
    ∃ nl nh, cor (alo (alo lo took d) since d) (ahi (ahi hi took d) since d) sent (sent + took) (lo + u + y) (sent + took + since) d = (nl, nh, 0) ∧ nl ≤ lo + u + (took - cd took d + v) + since - cd since d + z ∧ lo + u + (took - cd took d + v) + since - cd since d + z ≤ nh ∧
      alo (alo lo took d) since d ≤ nl ∧ nh ≤ ahi (ahi hi took d) since d ∧ alo (alo lo took d) since d ≤ lo + u + (took - cd took d + v) + since - cd since d + z ∧ lo + u + (took - cd took d + v) + since - cd since d + z ≤ ahi (ahi hi took d) since d := by
  have c1 := cd_nonneg h1 hd
  have c2 := cd_self h1 hd
  have c3 := cd_nonneg h2 hd
  have c4 := cd_self h2 hd
  rw [cor_pls (pls_of h3 (by omega) (by omega) (by omega) (by omega))]
  rw [show sent + took - sent = took by omega, show sent + took + since - (sent + took) = since by omega]
  unfold alo ahi arr
  generalize cd took d = e at *
  generalize cd since d = f at *
  have a1 : lim (lo + took - e) ≤ lo + u + (took - e + v) := lim_le (by omega) (by omega)
  have a2 : lo + u + (took - e + v) ≤ lim (hi + took + e) := le_lim (by omega) (by omega)
  have a3 : lo + u + (took - e + v) ≤ lim (lo + u + y + took + e) := le_lim (by omega) (by omega)
  generalize lim (lo + took - e) = l1 at *
  generalize lim (hi + took + e) = h1' at *
  generalize lim (lo + u + y + took + e) = x1 at *
  have b1 : lim (l1 + since - f) ≤ lo + u + (took - e + v) + since - f + z := lim_le (by omega) (by omega)
  have b2 : lo + u + (took - e + v) + since - f + z ≤ lim (h1' + since + f) := le_lim (by omega) (by omega)
  have b3 : lim (lo + u + y + since - f) ≤ lo + u + (took - e + v) + since - f + z := lim_le (by omega) (by omega)
  have b4 : lo + u + (took - e + v) + since - f + z ≤ lim (x1 + since + f) := le_lim (by omega) (by omega)
  generalize lim (l1 + since - f) = wl at *
  generalize lim (h1' + since + f) = wh at *
  generalize lim (lo + u + y + since - f) = xl at *
  generalize lim (x1 + since + f) = xh at *
  generalize lo + u + (took - e + v) + since - f + z = nw at *
  refine ⟨mx wl xl, mn wh xh, i2_ok ?_, ?_, ?_, ?_, ?_, b1, b2⟩ <;> (try unfold mx) <;> (try unfold mn) <;> (repeat' split) <;> omega
end K
end Go.Proofs.Ytlmbpbhdbgadjaa
