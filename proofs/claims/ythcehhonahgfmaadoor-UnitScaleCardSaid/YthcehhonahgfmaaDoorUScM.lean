/-
  Mathematics of UnitScale: a number, a space and one word of letters, parsed; the letters of a text.
-/
import Derived.Test.YthcehhonahgfmaaDoorUPP
namespace Go.Proofs.YthcehhonahgfmaaDoor
namespace U
set_option linter.unusedVariables false
/-- The letters among the first k bytes. -/
def wordT (l : List UInt8) (k : Nat) : List UInt8 := (l.take k).filter isLet
theorem word_step {l : List UInt8} {k : Nat} {c : UInt8} (h : l[k]? = some c) : wordT l (k + 1) = if isLet c then wordT l k ++ [c] else wordT l k := by
  unfold wordT
  rw [List.take_add_one, h, Option.toList_some, List.filter_append]
  by_cases hc : isLet c = true
  · rw [if_pos hc, List.filter_cons, if_pos hc]; rfl
  · rw [if_neg hc, List.filter_cons, if_neg hc]; simp
theorem word_len (l : List UInt8) (k : Nat) : (wordT l k).length ≤ k := by
  unfold wordT
  exact Nat.le_trans (List.length_filter_le _ _) (by rw [List.length_take]; omega)
theorem word_lets (l : List UInt8) (k : Nat) : (wordT l k).all isLet = true := by
  unfold wordT
  rw [List.all_eq_true]
  intro x hx
  exact (List.mem_filter.1 hx).2
theorem sc_ne {c d : UInt8} (h : isLet c = true) (hd : isLet d = false) : c ≠ d := fun e => by rw [e, hd] at h; cases h
theorem sc_chk (n k : Int) (m : Dm) : chk ⟨scaled n k, m⟩ = chk ⟨n * k, m⟩ := by
  unfold scaled
  by_cases h : -2147483647 ≤ n * k ∧ n * k ≤ 2147483647
  · have e : max (min (n * k) 2147483648) (-2147483648) = n * k := by omega
    rw [e]
  · have h1 : ¬ (⟨max (min (n * k) 2147483648) (-2147483648), m⟩ : Qt).valid := fun hv => by
      have h1 := hv.1.1
      have h2 := hv.1.2
      dsimp only at h1 h2
      omega
    have h2 : ¬ (⟨n * k, m⟩ : Qt).valid := fun hv => h hv.1
    unfold chk
    rw [if_neg h1, if_neg h2]
theorem sc_zt (x : Dm) : Dm.zero.times x = x := by
  obtain ⟨a, b, c, d, e⟩ := x
  unfold Dm.times Dm.zero
  simp
theorem parse_scale {n : Int} (hn : -2147483647 ≤ n ∧ n ≤ 2147483647) {u : List UInt8} (hu : u.all isLet = true) (h0 : u ≠ []) (hl : u.length ≤ 40) :
    parseT (Lib.itoa n ++ 32 :: u) = if (lookT u).2.2 = false then (.zero, 10) else chk ⟨n * (lookT u).2.1, (lookT u).1⟩ := by
  obtain ⟨hn1, hn2⟩ := itoa_num hn
  have hlen := itoa_len11 hn
  have hmem : ∀ (d : UInt8), isLet d = false → ∀ x ∈ u, x ≠ d := fun d hd x hx => sc_ne (List.all_eq_true.1 hu x hx) hd
  obtain ⟨ht, hd⟩ := tw_app u hn2
  have hlets : lets u = true := by
    unfold lets
    rw [hu]
    cases u with
    | nil => exact absurd rfl h0
    | cons a b => rfl
  have hfac : facT u = some ⟨u, 1, false⟩ := by
    unfold facT
    rw [splitT_none (hmem 94 (by decide))]
    simp only [hlets, if_true]
  have hform : formT (Lib.itoa n ++ 32 :: u) = some (n, [⟨u, 1, false⟩]) := by
    unfold formT
    rw [ht, hd, hn1]
    simp only [if_true]
    rw [splitT_none (hmem 42 (by decide))]
    unfold facsT
    rw [hfac]
    rfl
  unfold parseT
  rw [if_neg (by simp only [List.length_append, List.length_cons]; omega), hform]
  simp only []
  unfold facFold facStep
  by_cases hk : (lookT u).2.2 = false
  · rw [if_pos (Or.inl hk), if_pos hk]
  · rw [if_neg (by simp [hk]), if_neg (show ¬ ((1 : Int) = 0 ∨ (1 : Int) < -8 ∨ (8 : Int) < 1) by decide), if_neg hk]
    simp only [facFold]
    rw [raised_one, sc_zt]
    exact sc_chk _ _ _
end U
end Go.Proofs.YthcehhonahgfmaaDoor
