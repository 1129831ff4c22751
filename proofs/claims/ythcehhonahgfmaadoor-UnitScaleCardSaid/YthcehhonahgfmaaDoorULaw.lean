/-
  What the walks of the laws of layer 4 import.
-/
import Derived.Test.YthcehhonahgfmaaDoorUProg
import Derived.Test.YthcehhonahgfmaaDoorUOpen
import Derived.Test.YthcehhonahgfmaaDoorOpen
import Derived.Deep.DeepCutAuto
import Derived.Deep.RegionHeld3
import Derived.Deep.LoopGhost
import Derived.Deep.QuietTactic
namespace Go.Proofs.YthcehhonahgfmaaDoor
namespace U
set_option linter.unusedVariables false
theorem chk_cases (q : Qt) : (q.valid ∧ chk q = (q, 0)) ∨ (¬ q.valid ∧ chk q = (Qt.zero, 5)) := by
  by_cases h : q.valid
  · exact .inl ⟨h, if_pos h⟩
  · exact .inr ⟨h, if_neg h⟩
theorem times_over (x y : Dm) : (x.times y).over y = x := by
  obtain ⟨a, b, c, d, e⟩ := x
  obtain ⟨a2, b2, c2, d2, e2⟩ := y
  unfold Dm.times Dm.over
  simp only [Dm.mk.injEq]
  omega
theorem cmp_swap (x y : Qt) : cmpQ y x = (-(cmpQ x y).1, (cmpQ x y).2) := by
  unfold cmpQ
  by_cases h : x.m = y.m
  · rw [if_pos h, if_pos h.symm]
    by_cases h1 : x.n < y.n
    · rw [if_pos h1, if_neg (by omega), if_pos h1]; rfl
    · rw [if_neg h1]
      by_cases h2 : y.n < x.n
      · rw [if_pos h2, if_neg h1, if_pos h2]
      · rw [if_neg h2, if_neg h1, if_neg h2]; rfl
  · rw [if_neg h, if_neg (fun k => h k.symm)]; rfl
theorem cmp_bd (x y : Qt) : -1 ≤ (cmpQ x y).1 ∧ (cmpQ x y).1 ≤ 1 := by
  unfold cmpQ
  by_cases h : x.m = y.m
  · rw [if_pos h]
    by_cases h1 : x.n < y.n
    · rw [if_pos h1]; decide
    · rw [if_neg h1]
      by_cases h2 : y.n < x.n
      · rw [if_pos h2]; decide
      · rw [if_neg h2]; decide
  · rw [if_neg h]; decide
theorem cmp_sub {x y : Qt} (h : (subQ x y).2 = 0) : ((cmpQ x y).1 < 0 ↔ (subQ x y).1.n < 0) ∧ (0 < (cmpQ x y).1 ↔ 0 < (subQ x y).1.n) := by
  unfold subQ cmpQ at *
  by_cases hm : x.m = y.m
  · rw [if_pos hm] at h
    rw [if_pos hm, if_pos hm]
    rcases chk_cases ⟨x.n - y.n, x.m⟩ with ⟨_, e⟩ | ⟨_, e⟩
    · rw [e]
      dsimp only
      by_cases h1 : x.n < y.n
      · rw [if_pos h1]; omega
      · rw [if_neg h1]
        by_cases h2 : y.n < x.n
        · rw [if_pos h2]; omega
        · rw [if_neg h2]; omega
    · rw [e] at h; cases h
  · rw [if_neg hm] at h; cases h
theorem add_back {x y : Qt} (hx : x.valid) (h : (addQ x y).2 = 0) : (addQ x y).1.valid ∧ subQ (addQ x y).1 y = (x, 0) := by
  unfold addQ at *
  by_cases hm : x.m = y.m
  · rw [if_pos hm] at h ⊢
    rcases chk_cases ⟨x.n + y.n, x.m⟩ with ⟨hv, e⟩ | ⟨_, e⟩
    · rw [e]
      refine ⟨hv, ?_⟩
      unfold subQ
      rw [if_pos hm]
      have e2 : (⟨x.n + y.n - y.n, x.m⟩ : Qt) = x := by obtain ⟨n, m⟩ := x; simp only [Qt.mk.injEq]; exact ⟨by omega, trivial⟩
      show chk ⟨x.n + y.n - y.n, x.m⟩ = _
      rw [e2]
      exact if_pos hx
    · rw [e] at h; cases h
  · rw [if_neg hm] at h; cases h
theorem mul_back {x y : Qt} (hx : x.valid) (hy : y.n ≠ 0) (h : (mulQ x y).2 = 0) : (mulQ x y).1.valid ∧ divQ (mulQ x y).1 y = (x, 0) := by
  unfold mulQ at *
  rcases chk_cases ⟨x.n * y.n, x.m.times y.m⟩ with ⟨hv, e⟩ | ⟨_, e⟩
  · rw [e]
    refine ⟨hv, ?_⟩
    unfold divQ
    rw [if_neg hy]
    show chk ⟨(x.n * y.n).fdiv y.n, (x.m.times y.m).over y.m⟩ = _
    have e2 : (⟨(x.n * y.n).fdiv y.n, (x.m.times y.m).over y.m⟩ : Qt) = x := by
      obtain ⟨n, m⟩ := x
      simp only [Qt.mk.injEq]
      exact ⟨Int.mul_fdiv_cancel _ hy, times_over _ _⟩
    rw [e2]
    exact if_pos hx
  · rw [e] at h; cases h
theorem div_err {x y : Qt} (h : (divQ x y).2 ≠ 0) : (divQ x y).1 = Qt.zero := by
  unfold divQ at *
  by_cases h0 : y.n = 0
  · rw [if_pos h0]
  · rw [if_neg h0] at h ⊢
    rcases chk_cases ⟨x.n.fdiv y.n, x.m.over y.m⟩ with ⟨_, e⟩ | ⟨_, e⟩
    · rw [e] at h; exact absurd rfl h
    · rw [e]
theorem div_ok {x y : Qt} (h : (divQ x y).2 = 0) : (divQ x y).1.valid ∧ y.n ≠ 0 ∧ (divQ x y).1.n = x.n.fdiv y.n := by
  unfold divQ at *
  by_cases h0 : y.n = 0
  · rw [if_pos h0] at h; cases h
  · rw [if_neg h0] at h ⊢
    rcases chk_cases ⟨x.n.fdiv y.n, x.m.over y.m⟩ with ⟨hv, e⟩ | ⟨_, e⟩
    · rw [e]; exact ⟨hv, h0, rfl⟩
    · rw [e] at h; cases h
theorem fdiv_pos_bd (a b : Int) (h : 0 < b) : a.fdiv b * b ≤ a ∧ a < (a.fdiv b + 1) * b := by
  rw [fdiv_pos a b h]
  have h1 := Int.emod_nonneg a (show b ≠ 0 by omega)
  have h2 := Int.emod_lt_of_pos a h
  have h3 := Int.mul_ediv_add_emod a b
  have h4 : a / b * b = b * (a / b) := Int.mul_comm _ _
  have h5 : (a / b + 1) * b = a / b * b + b := by rw [Int.add_mul, Int.one_mul]
  omega
theorem fdiv_neg_bd (a b : Int) (h : b < 0) : a ≤ a.fdiv b * b ∧ (a.fdiv b + 1) * b < a := by
  have h1 := fdiv_pos_bd (-a) (-b) (by omega)
  rw [fdiv_pos (-a) (-b) (by omega), ← fdiv_neg a b h] at h1
  have h4 : a.fdiv b * -b = -(a.fdiv b * b) := Int.mul_neg _ _
  have h5 : (a.fdiv b + 1) * -b = -((a.fdiv b + 1) * b) := Int.mul_neg _ _
  omega
end U
end Go.Proofs.YthcehhonahgfmaaDoor
