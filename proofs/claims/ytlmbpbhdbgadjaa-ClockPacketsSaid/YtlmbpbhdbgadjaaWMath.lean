/-
  The plain mathematics of package wire: the encodings of numbers, and reading them back; nothing here speaks of the program.
-/
import Derived.Test.YtlmbpbhdbgadjaaKit
namespace Go.Proofs.Ytlmbpbhdbgadjaa
namespace W

/-- The encoding of an unsigned number. -/
def encU (n : Nat) : List Int := if n < 128 then [(n : Int)] else ((n % 128 + 128 : Nat) : Int) :: encU (n / 128)
termination_by n
decreasing_by omega

theorem encU_lt {n : Nat} (h : n < 128) : encU n = [(n : Int)] := by rw [encU, if_pos h]
theorem encU_ge {n : Nat} (h : ¬ n < 128) : encU n = ((n % 128 + 128 : Nat) : Int) :: encU (n / 128) := by rw [encU, if_neg h]
theorem encU_byt (n : Nat) : H.Byt (encU n) := by
  induction n using Nat.strongRecOn with
  | _ n ih =>
    by_cases h : n < 128
    · rw [encU_lt h]; intro b hb; simp at hb; omega
    · rw [encU_ge h]
      intro b hb
      rcases List.mem_cons.1 hb with rfl | hb
      · omega
      · exact ih (n / 128) (by omega) b hb
theorem encU_pos (n : Nat) : 0 < (encU n).length := by
  by_cases h : n < 128
  · rw [encU_lt h]; simp
  · rw [encU_ge h]; simp
theorem encU_len : ∀ (k : Nat) {n : Nat}, n < 128 ^ (k + 1) → (encU n).length ≤ k + 1
  | 0, n, h => by rw [encU_lt (by simpa using h)]; simp
  | k + 1, n, h => by
    by_cases hl : n < 128
    · rw [encU_lt hl]; simp
    · rw [encU_ge hl, List.length_cons]
      have := encU_len k (n := n / 128) (by rw [Nat.pow_succ] at h; exact Nat.div_lt_of_lt_mul (by omega))
      omega

/-- The unsigned number of a number, and back. -/
def zig (n : Int) : Nat := if 0 ≤ n then (2 * n).toNat else (-2 * n - 1).toNat
def zag (u : Nat) : Int := if u % 2 = 0 then ((u / 2 : Nat) : Int) else -((u / 2 : Nat) : Int) - 1
theorem zag_zig (n : Int) : zag (zig n) = n := by
  unfold zag zig
  split <;> split <;> omega
theorem zig_zag (u : Nat) : zig (zag u) = u := by
  unfold zag zig
  split <;> split <;> omega
theorem zig_lt {n : Int} (h : -9223372036854775808 ≤ n ∧ n ≤ 9223372036854775807) : zig n < 18446744073709551616 := by
  unfold zig
  split <;> omega
theorem zag_range {u : Nat} (h : u < 18446744073709551616) : -9223372036854775808 ≤ zag u ∧ zag u ≤ 9223372036854775807 := by
  unfold zag
  split <;> omega

/-- Reading an unsigned number, k of its bytes being read: the number and what is left, or the error's code (6: too short, 7: malformed). -/
def rd (k : Nat) : List Int → Except Int (Nat × List Int)
  | [] => .error 6
  | c :: r =>
    if (k = 9 ∧ c ≠ 1) ∨ (0 < k ∧ c = 0) then .error 7
    else if c < 128 then .ok (c.toNat, r)
    else if k = 9 then .error 7
    else match rd (k + 1) r with
      | .ok (n, rest) => .ok ((c % 128).toNat + 128 * n, rest)
      | .error e => .error e

theorem rd_nil (k : Nat) : rd k [] = .error 6 := rfl
theorem rd_bad {k : Nat} {c : Int} {r : List Int} (h : (k = 9 ∧ c ≠ 1) ∨ (0 < k ∧ c = 0)) : rd k (c :: r) = .error 7 := by rw [rd, if_pos h]
theorem rd_last {k : Nat} {c : Int} {r : List Int} (h : ¬ ((k = 9 ∧ c ≠ 1) ∨ (0 < k ∧ c = 0))) (hc : c < 128) : rd k (c :: r) = .ok (c.toNat, r) := by rw [rd, if_neg h, if_pos hc]
theorem rd_more {k : Nat} {c : Int} {r : List Int} (hk : k < 9) (hc : 128 ≤ c) : rd k (c :: r) = match rd (k + 1) r with
      | .ok (n, rest) => .ok ((c % 128).toNat + 128 * n, rest)
      | .error e => .error e := by
  rw [rd, if_neg (by omega), if_neg (by omega), if_neg (by omega)]

/-- What was written is read back. -/
theorem rd_enc (rest : List Int) : ∀ (m k n : Nat), m + k = 9 → n < 2 * 128 ^ m → (0 < k → 0 < n) → rd k (encU n ++ rest) = .ok (n, rest) := by
  intro m
  induction m with
  | zero =>
    intro k n hk hn h0
    rw [encU_lt (by omega)]
    have : n = 1 := by have := h0 (by omega); omega
    subst this
    exact rd_last (by omega) (by omega)
  | succ m ih =>
    intro k n hk hn h0
    by_cases hl : n < 128
    · rw [encU_lt hl]
      show rd k ((n : Int) :: rest) = _
      rw [rd_last (by omega) (by omega)]
      simp
    · rw [encU_ge hl, List.cons_append, rd_more (by omega) (by omega), ih (k + 1) (n / 128) (by omega) (by rw [Nat.pow_succ] at hn; omega) (by omega)]
      have e : (((n % 128 + 128 : Nat) : Int) % 128).toNat + 128 * (n / 128) = n := by omega
      simp only [e]

theorem rd_enc0 {n : Nat} (hn : n < 18446744073709551616) (rest : List Int) : rd 0 (encU n ++ rest) = .ok (n, rest) :=
  rd_enc rest 9 0 n rfl (by have : (2 : Nat) * 128 ^ 9 = 18446744073709551616 := by decide
                            omega) (by omega)

/-- Only the encoding of a number is read as that number. -/
theorem rd_canon : ∀ (bs : List Int) (k n : Nat) (rest : List Int), H.Byt bs → k ≤ 9 → rd k bs = .ok (n, rest) → bs = encU n ++ rest ∧ (0 < k → 0 < n) ∧ n < 2 * 128 ^ (9 - k)
  | [], k, n, rest, _, _, h => by rw [rd_nil] at h; cases h
  | c :: r, k, n, rest, hb, hk, h => by
    have hc := hb c (by simp)
    by_cases h1 : (k = 9 ∧ c ≠ 1) ∨ (0 < k ∧ c = 0)
    · rw [rd_bad h1] at h; cases h
    · by_cases h2 : c < 128
      · rw [rd_last h1 h2] at h
        injection h with h
        injection h with hn hr
        subst hr
        have e : ((c.toNat : Nat) : Int) = c := by omega
        refine ⟨?_, by omega, ?_⟩
        · rw [← hn, encU_lt (by omega), e]; rfl
        · rcases Nat.lt_or_ge k 9 with hk9 | hk9
          · have : (128 : Nat) ≤ 128 ^ (9 - k) := by
              have := Nat.pow_le_pow_right (n := 128) (by omega) (show 1 ≤ 9 - k by omega)
              simpa using this
            omega
          · have : 9 - k = 0 := by omega
            rw [this]
            have : c = 1 := by omega
            simp; omega
      · have hk9 : k < 9 := by
          rcases Nat.lt_or_ge k 9 with hk9 | hk9
          · exact hk9
          · omega
        rw [rd_more hk9 (by omega)] at h
        rcases hr : rd (k + 1) r with e | ⟨n', rest'⟩
        · rw [hr] at h; cases h
        · rw [hr] at h
          simp only at h
          injection h with h
          injection h with hn hrest
          subst hrest
          obtain ⟨e1, e2, e3⟩ := rd_canon r (k + 1) n' rest' (fun b hb' => hb b (by simp [hb'])) (by omega) hr
          have hn' : 0 < n' := e2 (by omega)
          have hdiv : n / 128 = n' := by omega
          have hmod : n % 128 = (c % 128).toNat := by omega
          refine ⟨?_, by omega, ?_⟩
          · rw [encU_ge (by omega), hdiv, List.cons_append, ← e1]
            congr 1
            omega
          · have : 9 - k = (9 - (k + 1)) + 1 := by omega
            rw [this, Nat.pow_succ]
            omega

/-- A proper prefix of an encoding is too short. -/
theorem rd_cut : ∀ (m k n : Nat) (p q : List Int), m + k = 9 → n < 2 * 128 ^ m → (0 < k → 0 < n) → encU n = p ++ q → q ≠ [] → rd k p = .error 6 := by
  intro m
  induction m with
  | zero =>
    intro k n p q hk hn h0 h hq
    rw [encU_lt (by omega)] at h
    cases p with
    | nil => rfl
    | cons c p =>
      simp at h
      exact absurd h.2.2 hq
  | succ m ih =>
    intro k n p q hk hn h0 h hq
    by_cases hl : n < 128
    · rw [encU_lt hl] at h
      cases p with
      | nil => rfl
      | cons c p =>
        simp at h
        exact absurd h.2.2 hq
    · rw [encU_ge hl] at h
      cases p with
      | nil => rfl
      | cons c p =>
        rw [List.cons_append] at h
        injection h with hc hp
        subst hc
        rw [rd_more (by omega) (by omega), ih (k + 1) (n / 128) p q (by omega) (by rw [Nat.pow_succ] at hn; omega) (by omega) hp hq]

end W
end Go.Proofs.Ytlmbpbhdbgadjaa
