/-
  Package clock as data: intervals, the error of a counter, correlations, counters read in part, windows.
-/
import Derived.Test.YtlmbpbhdbgadjaaKit
namespace Go.Proofs.Ytlmbpbhdbgadjaa
namespace K
set_option linter.unusedVariables false
/-- The closest tick. -/
def lim (n : Int) : Int := if n < 0 then 0 else if 1000000 < n then 1000000 else n
/-- c / d, rounded up. -/
def cd (c d : Int) : Int := (c + d - 1) / d
theorem cd_le {c d x : Int} (hd : 1 ≤ d) : cd c d ≤ x ↔ c ≤ x * d := by
  unfold cd
  constructor
  · intro h
    have h1 := Int.mul_ediv_add_emod (c + d - 1) d
    have h2 := Int.emod_lt_of_pos (c + d - 1) (show 0 < d by omega)
    have h3 : d * ((c + d - 1) / d) ≤ d * x := Int.mul_le_mul_of_nonneg_left h (by omega)
    rw [Int.mul_comm x d]
    omega
  · intro h
    have h1 : (c + d - 1) / d < x + 1 := by
      refine Int.ediv_lt_of_lt_mul (by omega) ?_
      rw [Int.add_mul, Int.one_mul]; omega
    omega
theorem cd_nonneg {c d : Int} (hc : 0 ≤ c) (hd : 1 ≤ d) : 0 ≤ cd c d := Int.ediv_nonneg (by omega) (by omega)
theorem cd_self {c d : Int} (hc : 0 ≤ c) (hd : 1 ≤ d) : cd c d ≤ c := (cd_le hd).2 (by
  have := Int.mul_le_mul_of_nonneg_left (show (1 : Int) ≤ d from hd) hc
  omega)
theorem cd_mul {c d : Int} (hd : 1 ≤ d) : c ≤ cd c d * d := (cd_le hd).1 (Int.le_refl _)
theorem cd_add {a b d : Int} (hd : 1 ≤ d) : cd (a + b) d ≤ cd a d + cd b d := (cd_le hd).2 (by
  have h1 := cd_mul (c := a) hd
  have h2 := cd_mul (c := b) hd
  rw [Int.add_mul]; omega)
theorem ceil_eq {c d : Int} (hc : 0 ≤ c) (hd : 1 ≤ d) : c / d + (if c % d < 1 then c % d else 1) = cd c d := by
  have h1 := Int.mul_ediv_add_emod c d
  have h2 := Int.emod_lt_of_pos c (show 0 < d by omega)
  have h3 := Int.emod_nonneg c (show d ≠ 0 by omega)
  have e : ∀ x : Int, d * x = x * d := fun x => Int.mul_comm d x
  have m := Int.add_mul (c / d) 1 d
  have m2 := Int.sub_mul (cd c d) 1 d
  rw [e] at h1
  have l1 : cd c d ≤ c / d + (if c % d < 1 then c % d else 1) := (cd_le hd).2 (by
    split
    · rw [show c % d = 0 by omega, Int.add_zero]; omega
    · omega)
  have l2 : c / d + (if c % d < 1 then c % d else 1) ≤ cd c d := by
    have h4 := cd_mul (c := c) hd
    split
    · rw [show c % d = 0 by omega, Int.add_zero]
      exact Int.ediv_le_of_le_mul (by omega) h4
    · have : c / d < cd c d := Int.lt_of_mul_lt_mul_right (a := d) (by omega) (by omega)
      omega
  omega
/-- The ends of an interval after the counter advanced. -/
def alo (lo c d : Int) : Int := lim (lo + c - cd c d)
def ahi (hi c d : Int) : Int := lim (hi + c + cd c d)
/-- The end of the interval of an answer's arrival. -/
def arr (q k d : Int) : Int := lim (q + k + cd k d)
def mx (a b : Int) : Int := if a < b then b else a
def mn (a b : Int) : Int := if b < a then b else a
/-- A correlation is plausible. -/
def pls (s r q now : Int) : Bool := decide (0 ≤ s) && decide (s ≤ r) && decide (r ≤ now) && decide (0 ≤ q) && decide (q ≤ 1000000)
/-- What Correlate returns: the ends and the error. -/
def cor (lo hi s r q now d : Int) : Int × Int × Int :=
  if pls s r q now = true then
    if mn hi (ahi (arr q (r - s) d) (now - r) d) < mx lo (alo q (now - r) d) then (0, 0, 22) else (mx lo (alo q (now - r) d), mn hi (ahi (arr q (r - s) d) (now - r) d), 0)
  else (0, 0, 1)
/-- The counter whose lowest 16 bits were read. -/
def unw (last low : Int) : Int := last + (low - last) % 65536
/-- The decision about a window. -/
def jud (lo hi a b : Int) : Int := if b ≤ hi then 1 else if lo < a then -1 else 0
theorem lim_bd (n : Int) : 0 ≤ lim n ∧ lim n ≤ 1000000 := by unfold lim; (repeat' split) <;> omega
theorem lim_mono {a b : Int} (h : a ≤ b) : lim a ≤ lim b := by unfold lim; (repeat' split) <;> omega
theorem lim_le {a b : Int} (h : a ≤ b) (hb : 0 ≤ b) : lim a ≤ b := by unfold lim; (repeat' split) <;> omega
theorem le_lim {a b : Int} (h : a ≤ b) (ha : a ≤ 1000000) : a ≤ lim b := by unfold lim; (repeat' split) <;> omega
end K
end Go.Proofs.Ytlmbpbhdbgadjaa
