/-
  Periods: covered ticks add up; a single tick; the next window.
-/
import Derived.Test.YtojflmejkigdiaaQRTk
import Derived.Test.YtojflmejkigdiaaQAt
namespace Go.Proofs.Ytojflmejkigdiaa
open Go.RowKit
namespace Q
open H
set_option linter.unusedVariables false
set_option linter.unusedSimpArgs false
theorem cov_add (x : Wn) {f m u : Int} (h1 : f ≤ m) (h2 : m ≤ u) : cov f m x + cov m u x = cov f u x := by
  unfold cov
  split <;> split <;> split <;> omega
theorem sum_add : ∀ (L : List Wn) {f m u : Int}, f ≤ m → m ≤ u → sumI (L.map (cov f m)) + sumI (L.map (cov m u)) = sumI (L.map (cov f u))
  | [], _, _, _, _, _ => rfl
  | x :: L, f, m, u, h1, h2 => by
    have h := cov_add x h1 h2
    have ih := sum_add L h1 h2
    simp only [List.map_cons, sumI]
    omega
theorem tick_add (T : List Wn) (k a b : Int) {f m u : Int} (h1 : f ≤ m) (h2 : m ≤ u) : tick T k a b f m + tick T k a b m u = tick T k a b f u := sum_add _ h1 h2
theorem sum_zero : ∀ (L : List Wn) (f u : Int), (∀ x ∈ L, cov f u x = 0) → sumI (L.map (cov f u)) = 0
  | [], _, _, _ => rfl
  | x :: L, f, u, h => by
    have h1 := h x (by simp)
    have h2 := sum_zero L f u fun y hy => h y (by simp [hy])
    simp only [List.map_cons, sumI]
    omega
theorem tick_zero {T : List Wn} {k a b f u : Int} (h : ∀ x ∈ T, hk x k a b = true → cov f u x = 0) : tick T k a b f u = 0 :=
  sum_zero _ _ _ fun x hx => by
    obtain ⟨h1, h2⟩ := List.mem_filter.1 hx
    exact h x h1 h2
theorem cov_one (x : Wn) (t : Int) : cov t (t + 1) x = if op x t = true then 1 else 0 := by
  unfold cov op
  by_cases h : x.fr ≤ t ∧ t < x.un
  · rw [if_pos (by omega), if_pos (decide_eq_true h)]; omega
  · rw [if_neg (show ¬ decide (x.fr ≤ t ∧ t < x.un) = true by simpa using h)]
    split <;> omega
theorem at_two {x y : Wn} {k a b t : Int} (hx : pAt k a b t x = true) (hy : pAt k a b t y = true) : meet x y = true := by
  unfold pAt hk op at *
  unfold meet
  simp only [Bool.and_eq_true, decide_eq_true_eq] at *
  omega
theorem tick_one : ∀ (T : List Wn) (k a b t : Int), T.Pairwise (fun y z => meet y z = false) → tick T k a b t (t + 1) = if (T.find? (pAt k a b t)).isSome = true then 1 else 0
  | [], _, _, _, _, _ => rfl
  | x :: T, k, a, b, t, h => by
    obtain ⟨h1, h2⟩ := List.pairwise_cons.1 h
    have ih := tick_one T k a b t h2
    by_cases hp : pAt k a b t x = true
    · have hh : hk x k a b = true := by unfold pAt at hp; simp only [Bool.and_eq_true] at hp; exact hp.1
      have ho : op x t = true := by unfold pAt at hp; simp only [Bool.and_eq_true] at hp; exact hp.2
      have hz : tick T k a b t (t + 1) = 0 := tick_zero fun y hy hk' => by
        rw [cov_one, if_neg]
        intro hoy
        have := at_two hp (y := y) (by unfold pAt; rw [hk', hoy]; rfl)
        rw [h1 y hy] at this
        cases this
      rw [List.find?_cons_of_pos hp]
      unfold tick
      rw [List.filter_cons_of_pos (show pTicks k a b x = true from hh)]
      show cov t (t + 1) x + tick T k a b t (t + 1) = _
      rw [hz, cov_one, if_pos ho]
      rfl
    · rw [List.find?_cons_of_neg hp, ← ih]
      unfold tick
      by_cases hh : pTicks k a b x = true
      · rw [List.filter_cons_of_pos hh]
        show cov t (t + 1) x + _ = _
        rw [cov_one, if_neg]
        · omega
        · intro ho
          exact hp (by unfold pAt; rw [show hk x k a b = true from hh, ho]; rfl)
      · rw [List.filter_cons_of_neg hh]
theorem next_at : ∀ (T : List Wn) (k a b t : Int), T.Pairwise (fun y z => bef y z = true) → (T.find? (pAt k a b t)).isSome = true → T.find? (pNext k a b t) = T.find? (pAt k a b t)
  | [], _, _, _, _, _, h => by simp at h
  | x :: T, k, a, b, t, hs, h => by
    obtain ⟨h1, h2⟩ := List.pairwise_cons.1 hs
    by_cases hp : pAt k a b t x = true
    · have hn : pNext k a b t x = true := by
        unfold pAt op at hp; unfold pNext
        simp only [Bool.and_eq_true, decide_eq_true_eq] at *
        exact ⟨hp.1, hp.2.2⟩
      rw [List.find?_cons_of_pos hp, List.find?_cons_of_pos hn]
    · rw [List.find?_cons_of_neg hp] at h ⊢
      have hn : ¬ pNext k a b t x = true := fun hn => by
        obtain ⟨y, hy⟩ := Option.isSome_iff_exists.1 h
        have hy1 := List.find?_some hy
        have hb := h1 y (List.mem_of_find?_eq_some hy)
        unfold pAt op at hp hy1; unfold pNext at hn; unfold bef at hb
        simp only [Bool.and_eq_true, decide_eq_true_eq] at *
        exact hp ⟨hn.1, by omega, hn.2⟩
      rw [List.find?_cons_of_neg hn]
      exact next_at T k a b t h2 h
theorem next_later : ∀ (T : List Wn) (k a b t : Int) (x : Wn), T.Pairwise (fun y z => bef y z = true) → T.find? (pNext k a b t) = some x → ∀ y ∈ T, hk y k a b = true → t < y.un → x.fr ≤ y.fr
  | [], _, _, _, _, _, _, h => by simp at h
  | z :: T, k, a, b, t, x, hs, h => fun y hy h1 h2 => by
    obtain ⟨h3, h4⟩ := List.pairwise_cons.1 hs
    by_cases hp : pNext k a b t z = true
    · rw [List.find?_cons_of_pos hp] at h
      obtain rfl := Option.some.inj h
      rcases List.mem_cons.1 hy with rfl | hy
      · exact Int.le_refl _
      · have hb := h3 y hy
        unfold bef at hb
        simp only [decide_eq_true_eq] at hb
        omega
    · rw [List.find?_cons_of_neg hp] at h
      rcases List.mem_cons.1 hy with rfl | hy
      · exact absurd (by unfold pNext; rw [h1]; simpa using h2) hp
      · exact next_later T k a b t x h4 h y hy h1 h2
/-- If no window is open, the next one opens later, and nothing is covered until then. -/
theorem next_gap {T : List Wn} {k a b t : Int} {x : Wn} (hs : T.Pairwise (fun y z => bef y z = true)) (hn : T.find? (pAt k a b t) = none) (h : T.find? (pNext k a b t) = some x) : t < x.fr ∧ tick T k a b t x.fr = 0 := by
  have hnone := List.find?_eq_none.1 hn
  have hx := List.find?_some h
  have hm := List.mem_of_find?_eq_some h
  have h1 := hnone x hm
  refine ⟨?_, tick_zero fun y hy hk' => ?_⟩
  · unfold pAt op at h1; unfold pNext at hx
    simp only [Bool.and_eq_true, decide_eq_true_eq] at *
    have := hx.2
    have h2 : ¬ (x.fr ≤ t ∧ t < x.un) := fun h => h1 ⟨hx.1, h⟩
    omega
  · have h2 := hnone y hy
    unfold cov
    by_cases hu : t < y.un
    · have h3 := next_later T k a b t x hs h y hy hk' hu
      rw [if_neg (by omega)]
    · rw [if_neg (by omega)]
end Q
end Go.Proofs.Ytojflmejkigdiaa
