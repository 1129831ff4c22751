/-
  Around: a number modulo another one, never negative.
-/
import Derived.Test.YtcgppbbpdnobfaaHFrame
namespace Go.Proofs.Ytcgppbbpdnobfaa
open Go.RowKit
namespace H

theorem i64_range {a : Int} (h : (Lit.int .i64 a).wf = true) : -9223372036854775808 ≤ a ∧ a ≤ 9223372036854775807 := by
  simp [Lit.wf, IntKind.min, IntKind.max, IntKind.signed, IntKind.bits] at h
  omega

theorem around_any (n m : Int) (hn : (Lit.int .i64 n).wf = true) (hm : 1 ≤ m) (hm' : m ≤ 140737488351232) :
    ∃ k : Int, 0 ≤ k ∧ k < m ∧ ∀ w, Calls Try.prog 20 #[.int .i64 n, .int .i64 m] w fun e w' => e = .returned (.int .i64 k) ∧ w = w' := by
  obtain ⟨h1, h2⟩ := i64_range hn
  by_cases hneg : n < 0
  · refine ⟨(-(n + 1)) % m, Int.emod_nonneg _ (by omega), Int.emod_lt_of_pos _ (by omega), fun w => ?_⟩
    clear hn
    go_enter Try.func20, Try.ntmps20
    go_wp2
    go_ret
    exact ⟨ret_int (by rw [← Int.neg_tmod]; exact Int.tmod_eq_emod_of_nonneg (by omega)), rfl⟩
  · refine ⟨n % m, Int.emod_nonneg _ (by omega), Int.emod_lt_of_pos _ (by omega), fun w => ?_⟩
    clear hn
    go_enter Try.func20, Try.ntmps20
    go_wp2
    go_ret
    exact ⟨rfl, rfl⟩

end H
end Go.Proofs.Ytcgppbbpdnobfaa
