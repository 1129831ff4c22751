/-
  Mathematics for the specification's Parse, and of a number followed by a unit.
-/
import Derived.Test.YthcehhonahgfmaaDoorUPP
namespace Go.Proofs.YthcehhonahgfmaaDoor
namespace U
set_option linter.unusedVariables false
--BEGIN
theorem take_all (p : UInt8 → Bool) {l : List UInt8} {j : Nat} {c : UInt8} (h : l[j]? = some c) : (l.take (j + 1)).all p = ((l.take j).all p && p c) := by
  obtain ⟨hj, he⟩ := List.getElem?_eq_some_iff.1 h
  rw [List.take_add_one, h, List.all_append]
  simp
theorem byte_at {s : ByteArray} {j : Nat} (h : j < s.size) : s.data.toList[j]? = some s[j] := by
  rw [List.getElem?_eq_getElem (by simpa using h)]
  rfl
theorem all_false {p : UInt8 → Bool} {l : List UInt8} {j : Nat} {c : UInt8} (h : l[j]? = some c) (hp : p c = false) : l.all p = false := by
  rw [← Bool.not_eq_true, List.all_eq_true]
  intro hh
  have := hh c (List.mem_of_getElem? h)
  rw [hp] at this
  cases this
theorem split_step {c : UInt8} {l : List UInt8} {f j : Nat} {done : List (List UInt8)} (hf : f ≤ j) (hseg : ∀ x ∈ (l.drop f).take (j - f), x ≠ c) (hs : splitT c l = done ++ splitT c (l.drop f)) (hc : l[j]? = some c) :
    splitT c l = (done ++ [(l.drop f).take (j - f)]) ++ splitT c (l.drop (j + 1)) := by
  have h1 : l.drop f = (l.drop f).take (j - f) ++ c :: l.drop (j + 1) := by
    obtain ⟨hj, he⟩ := List.getElem?_eq_some_iff.1 hc
    have h2 := List.take_append_drop (j - f) (l.drop f)
    rw [List.drop_drop, show f + (j - f) = j by omega, List.drop_eq_getElem_cons hj, he] at h2
    exact h2.symm
  rw [hs, List.append_assoc]
  congr 1
  exact (congrArg (splitT c) h1).trans (splitT_app _ hseg)
theorem split_end {c : UInt8} {l : List UInt8} {f j : Nat} {done : List (List UInt8)} (hj : l.length ≤ j) (hseg : ∀ x ∈ (l.drop f).take (j - f), x ≠ c) (hs : splitT c l = done ++ splitT c (l.drop f)) :
    splitT c l = done ++ [l.drop f] := by
  have h1 : (l.drop f).take (j - f) = l.drop f := List.take_of_length_le (by rw [List.length_drop]; omega)
  rw [h1] at hseg
  rw [hs, splitT_none hseg]
theorem seg_next {c x : UInt8} {l : List UInt8} {f j : Nat} (hf : f ≤ j) (hseg : ∀ x ∈ (l.drop f).take (j - f), x ≠ c) (hc : l[j]? = some x) (hx : x ≠ c) : ∀ y ∈ (l.drop f).take (j + 1 - f), y ≠ c := by
  rw [show j + 1 - f = (j - f) + 1 by omega, List.take_add_one, List.getElem?_drop, show f + (j - f) = j by omega, hc]
  intro y hy
  rw [List.mem_append] at hy
  rcases hy with hy | hy
  · exact hseg y hy
  · simp at hy
    rw [hy]; exact hx
theorem seg_nil {c : UInt8} {l : List UInt8} {j : Nat} : ∀ y ∈ (l.drop j).take (j - j), y ≠ c := by simp
/-- The value of a number, from where its digits begin. -/
theorem num_from (l : List UInt8) (f : Nat) (hf : (l.head? = some 45 ∧ f = 1) ∨ (l.head? ≠ some 45 ∧ f = 0)) :
    numT l = if l.length = f ∨ (l[f]? = some 48 ∧ 1 < l.length) then (0, false) else if (l.drop f).all isDig then ((if f = 1 then -(digs (l.drop f) : Int) else (digs (l.drop f) : Int)), true) else (0, false) := by
  unfold numT
  rcases hf with ⟨h, rfl⟩ | ⟨h, rfl⟩
  · cases l with
    | nil => simp at h
    | cons a r =>
      simp only [if_pos h, List.tail_cons, List.length_cons, List.drop_succ_cons, List.drop_zero, if_true]
      have e1 : (r = [] ∨ r.head? = some 48 ∧ 1 < r.length + 1) ↔ (r.length + 1 = 1 ∨ (a :: r)[1]? = some 48 ∧ 1 < r.length + 1) := by
        rw [List.getElem?_cons_succ, List.head?_eq_getElem?]
        constructor
        · rintro (h | h)
          · left; rw [h]; rfl
          · right; exact h
        · rintro (h | h)
          · left; exact List.length_eq_zero_iff.1 (by omega)
          · right; exact h
      by_cases h1 : (r = [] ∨ r.head? = some 48 ∧ 1 < r.length + 1)
      · rw [if_pos h1, if_pos (e1.1 h1)]
      · rw [if_neg h1, if_neg (fun e => h1 (e1.2 e))]
  · simp only [if_neg h, List.drop_zero]
    have e1 : (l = [] ∨ l.head? = some 48 ∧ 1 < l.length) ↔ (l.length = 0 ∨ l[0]? = some 48 ∧ 1 < l.length) := by
      rw [List.head?_eq_getElem?, List.length_eq_zero_iff]
    by_cases h1 : (l = [] ∨ l.head? = some 48 ∧ 1 < l.length)
    · rw [if_pos h1, if_pos (e1.1 h1)]
    · rw [if_neg h1, if_neg (fun e => h1 (e1.2 e))]
      rfl
theorem digs_snoc (r : List UInt8) (c : UInt8) : digs (r ++ [c]) = dstep (digs r) c := by
  unfold digs
  rw [List.foldl_append]
  rfl
theorem digs_le (r : List UInt8) : digs r ≤ 2147483648 := dfold_le r 0 (by omega)
theorem num_bd (l : List UInt8) : -2147483648 ≤ (numT l).1 ∧ (numT l).1 ≤ 2147483648 := by
  have h1 := digs_le l.tail
  have h2 := digs_le l
  unfold numT
  dsimp only
  repeat' split
  all_goals dsimp only
  all_goals first | decide | omega
/-! ### A number followed by a unit -/
theorem lets_ne {u : List UInt8} {c : UInt8} (h : lets u = true) (hc : isLet c = false) : ∀ x ∈ u, x ≠ c := fun x hx e => by
  unfold lets at h
  rw [Bool.and_eq_true] at h
  have := List.all_eq_true.1 h.1 x hx
  rw [e, hc] at this
  cases this
theorem chk_scaled (n k : Int) (d : Dm) : chk ⟨scaled n k, d⟩ = chk ⟨n * k, d⟩ := by
  unfold scaled
  generalize n * k = z
  by_cases h : -2147483648 ≤ z ∧ z ≤ 2147483648
  · rw [show max (min z 2147483648) (-2147483648) = z by omega]
  · unfold chk
    rw [if_neg, if_neg]
    · intro hv
      have h2 := hv.1
      dsimp only at h2
      omega
    · intro hv
      have h2 := hv.1
      dsimp only at h2
      omega
theorem zero_times (x : Dm) : Dm.zero.times x = x := by
  obtain ⟨a, b, c, d, e⟩ := x
  simp [Dm.zero, Dm.times]
theorem scale_parse {n : Int} (hn : -2147483647 ≤ n ∧ n ≤ 2147483647) {u : List UInt8} (hu : lets u = true) (hl : u.length ≤ 40) :
    parseT (Lib.itoa n ++ 32 :: u) = if (lookT u).2.2 = false then (.zero, 10) else chk ⟨n * (lookT u).2.1, (lookT u).1⟩ := by
  obtain ⟨hn1, hn2⟩ := itoa_num hn
  have h11 := itoa_len11 hn
  obtain ⟨ht, hd⟩ := tw_app u hn2
  have hfac : facT u = some ⟨u, 1, false⟩ := by
    unfold facT
    rw [splitT_none (lets_ne hu (c := 94) (by decide))]
    simp [hu]
  have hform : formT (Lib.itoa n ++ 32 :: u) = some (n, [⟨u, 1, false⟩]) := by
    unfold formT
    rw [ht, hd, hn1]
    simp only [if_true]
    rw [splitT_none (lets_ne hu (c := 42) (by decide))]
    unfold facsT
    rw [hfac]
    rfl
  unfold parseT
  rw [if_neg (by simp; omega), hform]
  simp only []
  unfold facFold facStep
  cases hk : (lookT u).2.2
  · simp
  · simp only [Bool.true_eq_false, Bool.false_eq_true, false_and, false_or, if_false]
    rw [if_neg (by decide)]
    unfold facFold
    simp only []
    rw [zero_times, raised_one, chk_scaled]
end U
end Go.Proofs.YthcehhonahgfmaaDoor
