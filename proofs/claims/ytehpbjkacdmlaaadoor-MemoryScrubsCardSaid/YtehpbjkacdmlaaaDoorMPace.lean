/-
  Mathematics of MemoryPace: each word has one wrong bit; scrubs of c words in turn.
-/
import Derived.Test.YtehpbjkacdmlaaaDoorMScrub
namespace Go.Proofs.YtehpbjkacdmlaaaDoor
namespace M
set_option linter.unusedVariables false
theorem dec_zero : E.dec 0 = (0, 0) := by
  have := E.dec_enc (E.enc_ok (show 0 < 4294967296 by decide))
  rwa [enc_zero] at this
theorem dec_pow {i : Nat} (h : i < 39) : E.dec (2 ^ i) = (0, 1) := by
  have := E.dec_one (E.enc_ok (show 0 < 4294967296 by decide)) h
  rwa [enc_zero, Nat.zero_xor] at this
theorem fix_zero : fix 0 = 0 := by unfold fix; rw [dec_zero, if_neg (by decide)]
theorem fix_pow {i : Nat} (h : i < 39) : fix (2 ^ i) = 0 := by unfold fix; rw [dec_pow h, if_pos rfl, enc_zero]
/-- t words in turn have been visited, the others have one wrong bit each. -/
structure Paced (f : Nat → Nat) (n t : Nat) (m : Mem) : Prop where
  ok : m.ok
  len : m.code.length = n
  on : m.off = false
  next : m.next = t % n
  words : ∀ j, j < n → m.at j = if j < t then 0 else 2 ^ f j
theorem Paced.scrub {f : Nat → Nat} {n t : Nat} {m : Mem} (h : Paced f n t m) (hf : ∀ j, f j < 39) (ht : t < n) {p : Nat} (hp : 1 ≤ p) :
    m.turns p = min p n ∧ m.found 1 (min p n) = min (t + min p n) n - t ∧ m.found 2 (min p n) = 0 ∧ Paced f n (t + min p n) (m.scrub p) := by
  have hT : m.turns p = min p n := by
    unfold Mem.turns
    rw [if_neg (by simp [h.on]), h.len]; rfl
  have hn := h.ok.next
  have hnx : m.next = t := by rw [h.next, Nat.mod_eq_of_lt ht]
  obtain ⟨c, hc⟩ : ∃ c, min p n = c := ⟨_, rfl⟩
  have hcn : c ≤ n := by omega
  rw [hc] at hT ⊢
  have hst : ∀ i, i < c → (E.dec (m.at (turn m i))).2 = if i < n - t then 1 else 0 := fun i hi => by
    unfold turn
    rw [hnx, h.len, mod2 (by omega)]
    by_cases h1 : t + i < n
    · rw [if_pos h1, h.words _ h1, if_neg (by omega), dec_pow (hf _), if_pos (by omega)]
    · rw [if_neg h1, h.words _ (by omega), if_pos (by omega), dec_zero, if_neg (by omega)]
  refine ⟨hT, ?_, ?_, scrub_ok h.ok _, (visits_len _ _).trans h.len, (visits_off _ _).trans h.on, ?_, ?_⟩
  · rw [found_tally hn 1 c (by rw [h.len]; exact hcn)]
    have h1 : ∀ k, k ≤ c → tally (fun i => decide ((E.dec (m.at (turn m i))).2 = 1)) k = min (t + k) n - t := by
      intro k
      induction k with
      | zero => intro _; rw [tally]; omega
      | succ k ih =>
        intro hk
        rw [tally, ih (by omega), hst k (by omega)]
        by_cases h1 : k < n - t
        · rw [if_pos h1]; simp; omega
        · rw [if_neg h1]; simp; omega
    exact h1 c (Nat.le_refl _)
  · rw [found_tally hn 2 c (by rw [h.len]; exact hcn)]
    refine tally_none fun i hi => ?_
    rw [hst i hi]
    split <;> rfl
  · unfold Mem.scrub
    rw [hT, visits_next hn c (by rw [h.len]; exact hcn)]
    unfold turn
    rw [hnx, h.len]
  · intro j hj
    unfold Mem.scrub
    rw [hT, visits_at hn c (by rw [h.len]; exact hcn) j (by rw [h.len]; exact hj), h.words j hj]
    unfold away
    rw [hnx, h.len, mod2 (by omega)]
    by_cases h1 : j < t
    · have h2 : j < t + c := by omega
      rw [if_pos h1, fix_zero, if_pos h2]
      exact ite_self _
    · have ha : (if j + n - t < n then j + n - t else j + n - t - n) = j - t := by rw [if_neg (by omega)]; omega
      rw [if_neg h1, ha]
      by_cases h2 : j < t + c
      · have h3 : j - t < c := by omega
        rw [if_pos h3, fix_pow (hf _), if_pos h2]
      · have h3 : ¬ j - t < c := by omega
        rw [if_neg h3, if_neg h2]
/-- All words are clean. -/
theorem Paced.whole {f : Nat → Nat} {n t : Nat} {m : Mem} (h : Paced f n t m) (ht : n ≤ t) : m.turns n = n ∧ m.found 1 n = 0 ∧ m.found 2 n = 0 := by
  have hn := h.ok.next
  have hd : ∀ j, j < n → E.dec (m.at j) = (0, 0) := fun j hj => by rw [h.words j hj, if_pos (by omega), dec_zero]
  refine ⟨?_, ?_, ?_⟩
  · unfold Mem.turns
    rw [if_neg (by simp [h.on]), h.len, Int.toNat_natCast]; omega
  · have := found_whole hn 1
    rw [h.len] at this
    rw [this]
    exact tally_none fun j hj => by rw [hd j hj]; rfl
  · have := found_whole hn 2
    rw [h.len] at this
    rw [this]
    exact tally_none fun j hj => by rw [hd j hj]; rfl
theorem turns_none {m : Mem} {n : Int} (h : n ≤ 0) : m.turns n = 0 := by
  unfold Mem.turns
  split
  · rfl
  · have : n.toNat = 0 := by omega
    rw [this]; exact Nat.zero_min _
theorem scrub_none {m : Mem} {n : Int} (h : n ≤ 0) : m.scrub n = m := by unfold Mem.scrub; rw [turns_none h]; rfl
/-- The words while they are being flipped. -/
structure Flipping (f : Nat → Nat) (n k : Nat) (m : Mem) : Prop where
  ok : m.ok
  len : m.code.length = n
  on : m.off = false
  next : m.next = 0
  words : ∀ j, j < n → m.at j = if j < k then 2 ^ f j else 0
theorem Flipping.start (f : Nat → Nat) {n : Nat} (h1 : 1 ≤ n) (h2 : n ≤ 4096) : Flipping f n 0 (Mem.new n) := by
  refine ⟨new_ok h1 h2, List.length_replicate, rfl, rfl, fun j hj => ?_⟩
  unfold Mem.at Mem.new
  rw [if_neg (by omega), List.getElem?_replicate]
  split <;> rfl
theorem Flipping.next' {f : Nat → Nat} {n k : Nat} {m : Mem} (h : Flipping f n k m) (hk : k < n) (hf : f k < 39) : m.flipE k (f k) = 0 ∧ Flipping f n (k + 1) (m.flip k (f k)) := by
  have hk2 : k < m.code.length := by rw [h.len]; exact hk
  refine ⟨flipE_ok hk2 (by omega), flip_ok h.ok _ _, (len_flip _ _ _).trans h.len, (flip_off _ _ _).trans h.on, (flip_next _ _ _).trans h.next, fun j hj => ?_⟩
  have h0 : m.at k = 0 := by rw [h.words k hk, if_neg (by omega)]
  rw [at_flip hk2 (by omega) j, h0, Nat.zero_xor, h.words j hj]
  by_cases e : j = k
  · have h3 : j < k + 1 := by omega
    rw [if_pos e, if_pos h3, e]
  · rw [if_neg e]
    by_cases h1 : j < k
    · have h3 : j < k + 1 := by omega
      rw [if_pos h1, if_pos h3]
    · have h3 : ¬ j < k + 1 := by omega
      rw [if_neg h1, if_neg h3]
theorem Flipping.paced {f : Nat → Nat} {n : Nat} {m : Mem} (h : Flipping f n n m) (h1 : 1 ≤ n) : Paced f n 0 m :=
  ⟨h.ok, h.len, h.on, by rw [h.next, Nat.mod_eq_of_lt (by omega)], fun j hj => by rw [h.words j hj, if_pos hj, if_neg (by omega)]⟩
end M
end Go.Proofs.YtehpbjkacdmlaaaDoor
