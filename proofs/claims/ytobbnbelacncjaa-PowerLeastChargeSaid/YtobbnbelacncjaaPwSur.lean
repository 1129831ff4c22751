/-
  Needs and survival as data: the least charge, monotony.
-/
import Derived.Test.YtobbnbelacncjaaPwK
namespace Go.Proofs.Ytobbnbelacncjaa
open Go.RowKit
namespace Pw
open H
set_option linter.unusedVariables false
set_option linter.unusedSimpArgs false
/-- The need at a tick. -/
def need (T : List Q.Wn) (a e sun k : Int) : Int := nd T a e sun (endT T 0 - k).toNat
theorem need_end (T : List Q.Wn) (a e sun : Int) {k : Int} (h : endT T 0 ≤ k) : need T a e sun k = 0 := by
  unfold need
  rw [show (endT T 0 - k).toNat = 0 by omega]
  rfl
theorem need_step (T : List Q.Wn) (a e sun : Int) {k : Int} (h : k < endT T 0) : need T a e sun k = max 0 (need T a e sun (k + 1) + e - gn T a k sun) := by
  unfold need
  obtain ⟨n, hn⟩ : ∃ n : Nat, (endT T 0 - k).toNat = n + 1 := ⟨(endT T 0 - k).toNat - 1, by omega⟩
  rw [hn, show (endT T 0 - (k + 1)).toNat = n by omega]
  show max 0 (nd T a e sun n + e - gn T a (endT T 0 - 1 - n) sun) = _
  rw [show endT T 0 - 1 - (n : Int) = k by omega]
theorem need_nn (T : List Q.Wn) (a e sun k : Int) : 0 ≤ need T a e sun k := by
  by_cases h : k < endT T 0
  · rw [need_step T a e sun h]; omega
  · rw [need_end T a e sun (by omega)]; exact Int.le_refl _
/-- Who has the need survives, if the capacity suffices. -/
theorem sv_ok (T : List Q.Wn) (a : Int) {e sun cap f chg : Int} (hs : 0 ≤ sun) (h0 : need T a e sun f ≤ chg) (hc : ∀ k, f < k → k ≤ endT T 0 → need T a e sun k + e ≤ cap) : ∀ n : Nat, f + n ≤ endT T 0 → ∃ c, sv T a e sun cap f chg n = some c ∧ need T a e sun (f + n) ≤ c
  | 0, _ => ⟨chg, rfl, by rw [show f + ((0 : Nat) : Int) = f by simp]; exact h0⟩
  | n + 1, hn => by
    obtain ⟨c, h1, h2⟩ := sv_ok T a hs h0 hc n (by omega)
    have h3 := need_step T a e sun (k := f + n) (by omega)
    have h4 := hc (f + n + 1) (by omega) (by omega)
    have h5 := need_nn T a e sun (f + n + 1)
    refine ⟨min cap (c + gn T a (f + n) sun) - e, ?_, ?_⟩
    · unfold sv
      rw [h1]
      dsimp only
      rw [if_neg (by omega)]
    · rw [show f + ((n + 1 : Nat) : Int) = f + n + 1 by omega]
      omega
/-- Who has less does not. -/
theorem sv_below (T : List Q.Wn) (a : Int) {e sun cap f chg : Int} (he : 0 ≤ e) (hs : 0 ≤ sun ∧ sun ≤ 2147483647) (hb : 0 ≤ chg ∧ chg ≤ cap) (h0 : chg < need T a e sun f) : ∀ n : Nat, f + n ≤ endT T 0 → ∀ c, sv T a e sun cap f chg n = some c → c < need T a e sun (f + n)
  | 0, _, c, h => by rw [← Option.some.inj h, show f + ((0 : Nat) : Int) = f by simp]; exact h0
  | n + 1, hn, c, h => by
    unfold sv at h
    split at h
    · cases h
    · rename_i d hd
      have h1 := sv_below T a he hs hb h0 n (by omega) d hd
      have h2 := sv_bd T a he hb hs n d hd
      have h3 := need_step T a e sun (k := f + n) (by omega)
      split at h
      · cases h
      · rename_i hne
        rw [← Option.some.inj h, show f + ((n + 1 : Nat) : Int) = f + n + 1 by omega]
        omega
theorem sv_no (T : List Q.Wn) (a : Int) {e sun cap f chg : Int} (he : 0 ≤ e) (hs : 0 ≤ sun ∧ sun ≤ 2147483647) (hb : 0 ≤ chg ∧ chg ≤ cap) (h0 : chg < need T a e sun f) (hf : f ≤ endT T 0) : sv T a e sun cap f chg (endT T 0 - f).toNat = none := by
  cases hq : sv T a e sun cap f chg (endT T 0 - f).toNat with
  | none => rfl
  | some c =>
    have h1 := sv_below T a he hs hb h0 (endT T 0 - f).toNat (by omega) c hq
    rw [need_end T a e sun (by omega)] at h1
    have h2 := sv_bd T a he hb hs _ c hq
    omega
/-- More of everything. -/
theorem sv_mono (T : List Q.Wn) (a : Int) {e e' sun sun' cap cap' f chg chg' : Int} (he : e' ≤ e) (hs : 0 ≤ sun ∧ sun ≤ sun') (hc : cap ≤ cap') (hg : chg ≤ chg') : ∀ (n : Nat) (c : Int), sv T a e sun cap f chg n = some c → ∃ c', sv T a e' sun' cap' f chg' n = some c' ∧ c ≤ c'
  | 0, c, h => ⟨chg', rfl, by rw [← Option.some.inj h]; exact hg⟩
  | n + 1, c, h => by
    unfold sv at h
    split at h
    · cases h
    · rename_i d hd
      obtain ⟨d', h1, h2⟩ := sv_mono T a he hs hc hg n d hd
      have hgn : gn T a (f + n) sun ≤ gn T a (f + n) sun' := by unfold gn; split <;> omega
      split at h
      · cases h
      · rename_i hne
        refine ⟨min cap' (d' + gn T a (f + n) sun') - e', ?_, ?_⟩
        · unfold sv
          rw [h1]
          dsimp only
          rw [if_neg (by omega)]
        · rw [← Option.some.inj h]; omega
/-- A shorter period. -/
theorem sv_less (T : List Q.Wn) (a e sun cap f chg : Int) {n m : Nat} (h : (sv T a e sun cap f chg n).isSome = true) (hm : m ≤ n) : (sv T a e sun cap f chg m).isSome = true := by
  cases hq : sv T a e sun cap f chg m with
  | some c => rfl
  | none =>
    have := sv_none T a e sun cap f chg hq (n - m)
    rw [show m + (n - m) = n by omega] at this
    rw [this] at h
    cases h
end Pw
end Go.Proofs.Ytobbnbelacncjaa
