/-
  Mathematics of a scrub of at most all words: each word is visited once, and is corrected if it can be.
-/
import Derived.Test.YtnoohhpajoaaoaaDoorMMath
namespace Go.Proofs.YtnoohhpajoaaoaaDoor
namespace M
set_option linter.unusedVariables false
theorem mod2 {x n : Nat} (h : x < 2 * n) : x % n = if x < n then x else x - n := by
  split
  · next h1 => exact Nat.mod_eq_of_lt h1
  · next h1 =>
    rw [Nat.mod_eq_sub_mod (by omega)]
    exact Nat.mod_eq_of_lt (by omega)
/-- A code word behind a visit. -/
def fix (c : Nat) : Nat := if (E.dec c).2 = 1 then E.enc (E.dec c).1 else c
/-- How many visits behind the first one word j is visited. -/
def away (m : Mem) (j : Nat) : Nat := (j + m.code.length - m.next) % m.code.length
/-- The word that visit k visits. -/
def turn (m : Mem) (k : Nat) : Nat := (m.next + k) % m.code.length
theorem visit_at {m : Mem} (h : m.next < m.code.length) (j : Nat) : m.visit.at j = if j = m.next then fix (m.at j) else m.at j := by
  unfold Mem.visit Mem.at fix
  show (if (E.dec (m.at m.next)).2 = 1 then m.code.set m.next (E.enc (E.dec (m.at m.next)).1) else m.code)[j]?.getD 0 = _
  split
  · next h1 =>
    rw [at_set m _ _ _ h]
    by_cases e : j = m.next
    · rw [if_pos e, if_pos e, e]
      show _ = if (E.dec (m.at m.next)).2 = 1 then _ else _
      rw [if_pos h1]; rfl
    · rw [if_neg e, if_neg e]; rfl
  · next h1 =>
    by_cases e : j = m.next
    · rw [if_pos e, e]
      show _ = if (E.dec (m.at m.next)).2 = 1 then _ else _
      rw [if_neg h1]
    · rw [if_neg e]
theorem away_turn {m : Mem} (h : m.next < m.code.length) {k : Nat} (hk : k < m.code.length) : away m (turn m k) = k := by
  unfold away turn
  rw [mod2 (x := m.next + k) (by omega)]
  split
  · rw [mod2 (by omega)]; split <;> omega
  · rw [mod2 (by omega)]; split <;> omega
theorem away_ne {m : Mem} (h : m.next < m.code.length) {j k : Nat} (hj : j < m.code.length) (hk : k < m.code.length) (hne : j ≠ turn m k) : away m j ≠ k := by
  unfold away turn at *
  rw [mod2 (x := m.next + k) (by omega)] at hne
  rw [mod2 (by omega)]
  split at hne <;> split <;> omega
theorem visits_next {m : Mem} (h : m.next < m.code.length) : ∀ k, k ≤ m.code.length → (m.visits k).next = turn m k
  | 0, _ => by unfold turn; exact (Nat.mod_eq_of_lt h).symm
  | k + 1, hk => by
    rw [Mem.visits]
    show ((m.visits k).next + 1) % (m.visits k).code.length = _
    rw [visits_len, visits_next h k (by omega)]
    unfold turn
    rw [Nat.mod_add_mod]
    rfl
theorem visits_at {m : Mem} (h : m.next < m.code.length) : ∀ k, k ≤ m.code.length → ∀ j, j < m.code.length → (m.visits k).at j = if away m j < k then fix (m.at j) else m.at j
  | 0, _, j, hj => by rw [if_neg (by omega)]; rfl
  | k + 1, hk, j, hj => by
    have ih := visits_at h k (by omega) j hj
    have hn := visits_next h k (by omega)
    have hl := visits_len m k
    have ht : turn m k < m.code.length := Nat.mod_lt _ (by omega)
    rw [Mem.visits, visit_at (by rw [hl, hn]; exact ht), hn, ih]
    by_cases e : j = turn m k
    · have ha : away m j = k := by rw [e]; exact away_turn h (by omega)
      rw [if_pos e, if_neg (by omega), if_pos (by omega)]
    · have ha := away_ne h hj (show k < m.code.length by omega) e
      rw [if_neg e]
      by_cases h1 : away m j < k
      · rw [if_pos h1, if_pos (by omega)]
      · rw [if_neg h1, if_neg (by omega)]
/-- What visit k finds is what lay there at the start. -/
theorem visits_see {m : Mem} (h : m.next < m.code.length) {k : Nat} (hk : k < m.code.length) : (m.visits k).at (m.visits k).next = m.at (turn m k) := by
  have ht : turn m k < m.code.length := Nat.mod_lt _ (by omega)
  rw [visits_next h k (by omega), visits_at h k (by omega) _ ht, away_turn h hk, if_neg (by omega)]
/-- A count over the first k visits. -/
def tally (f : Nat → Bool) : Nat → Nat
  | 0 => 0
  | k + 1 => tally f k + (if f k = true then 1 else 0)
theorem tally_congr {f g : Nat → Bool} : ∀ {k}, (∀ i, i < k → f i = g i) → tally f k = tally g k
  | 0, _ => rfl
  | k + 1, h => by rw [tally, tally, tally_congr (fun i hi => h i (by omega)), h k (by omega)]
theorem tally_none {f : Nat → Bool} : ∀ {k}, (∀ i, i < k → f i = false) → tally f k = 0
  | 0, _ => rfl
  | k + 1, h => by rw [tally, tally_none (fun i hi => h i (by omega)), h k (by omega)]; rfl
theorem tally_all {f : Nat → Bool} : ∀ {k}, (∀ i, i < k → f i = true) → tally f k = k
  | 0, _ => rfl
  | k + 1, h => by rw [tally, tally_all (fun i hi => h i (by omega)), h k (by omega)]; rfl
/-- A count of what holds at one place alone. -/
theorem tally_one {f : Nat → Bool} {p : Nat} : ∀ {k}, (∀ i, i < k → f i = decide (i = p)) → tally f k = if p < k then 1 else 0
  | 0, _ => rfl
  | k + 1, h => by
    rw [tally, tally_one (p := p) (fun i hi => h i (by omega)), h k (by omega)]
    by_cases h1 : p < k
    · have h2 : ¬ k = p := by omega
      have h3 : p < k + 1 := by omega
      simp [h1, h2, h3]
    · by_cases h2 : k = p
      · simp [h2]
      · have h3 : ¬ p < k + 1 := by omega
        simp [h1, h2, h3]
theorem tally_add (f : Nat → Bool) (a : Nat) : ∀ b, tally f (a + b) = tally f a + tally (fun i => f (a + i)) b
  | 0 => rfl
  | b + 1 => by rw [← Nat.add_assoc, tally, tally_add f a b, tally]; omega
/-- A count over a cycle. -/
theorem tally_cycle (f : Nat → Bool) {n s : Nat} (h : s < n) : tally (fun i => f ((s + i) % n)) n = tally f n := by
  have h1 : tally (fun i => f ((s + i) % n)) ((n - s) + s) = tally (fun i => f (s + i)) (n - s) + tally f s := by
    rw [tally_add]
    congr 1
    · exact tally_congr fun i hi => by rw [Nat.mod_eq_of_lt (by omega)]
    · exact tally_congr fun i hi => by
        rw [mod2 (by omega), if_neg (by omega), show s + (n - s + i) - n = i by omega]
  have h2 := tally_add f s (n - s)
  rw [show n - s + s = n by omega] at h1
  rw [show s + (n - s) = n by omega] at h2
  rw [h1, h2]; omega
theorem found_tally {m : Mem} (h : m.next < m.code.length) (s : Nat) : ∀ k, k ≤ m.code.length → m.found s k = tally (fun i => decide ((E.dec (m.at (turn m i))).2 = s)) k
  | 0, _ => rfl
  | k + 1, hk => by
    rw [Mem.found, tally, found_tally h s k (by omega), visits_see h (by omega)]
    by_cases e : (E.dec (m.at (turn m k))).2 = s
    · rw [if_pos e, if_pos (by simpa using e)]
    · rw [if_neg e, if_neg (by simpa using e)]
/-- A scrub of all words: how many it finds. -/
theorem found_whole {m : Mem} (h : m.next < m.code.length) (s : Nat) : m.found s m.code.length = tally (fun j => decide ((E.dec (m.at j)).2 = s)) m.code.length := by
  rw [found_tally h s _ (Nat.le_refl _)]
  exact tally_cycle (fun j => decide ((E.dec (m.at j)).2 = s)) h
theorem visits_whole {m : Mem} (h : m.next < m.code.length) {j : Nat} (hj : j < m.code.length) : (m.visits m.code.length).at j = fix (m.at j) := by
  rw [visits_at h _ (Nat.le_refl _) j hj, if_pos]
  exact Nat.mod_lt _ (by omega)
/-! ### Words behind writes and flips -/
theorem at_write {m : Mem} {a : Nat} (ha : a < m.code.length) (ho : m.off = false) (w j : Nat) : (m.write a w).at j = if j = a then E.enc w else m.at j := by
  unfold Mem.write
  rw [if_pos ⟨decide_eq_true (by omega), ho⟩, Int.toNat_natCast]
  exact at_set m a _ j ha
theorem at_flip {m : Mem} {a b : Nat} (ha : a < m.code.length) (hb : b ≤ 38) (j : Nat) : (m.flip a b).at j = if j = a then m.at a ^^^ 2 ^ b else m.at j := by
  unfold Mem.flip
  rw [if_pos ⟨decide_eq_true (by omega), decide_eq_true (by omega)⟩, Int.toNat_natCast, Int.toNat_natCast]
  exact at_set m a _ j ha
theorem len_write (m : Mem) (a : Int) (w : Nat) : (m.write a w).code.length = m.code.length := by unfold Mem.write; split <;> simp
theorem len_flip (m : Mem) (a b : Int) : (m.flip a b).code.length = m.code.length := by unfold Mem.flip; split <;> simp
theorem flip_off (m : Mem) (a b : Int) : (m.flip a b).off = m.off := by unfold Mem.flip; split <;> rfl
theorem flip_count (m : Mem) (a b : Int) : (m.flip a b).count = m.count := by unfold Mem.flip; split <;> rfl
theorem flip_next (m : Mem) (a b : Int) : (m.flip a b).next = m.next := by unfold Mem.flip; split <;> rfl
theorem flip_left (m : Mem) (a b : Int) : (m.flip a b).left = m.left := by unfold Mem.flip; split <;> rfl
theorem write_next (m : Mem) (a : Int) (w : Nat) : (m.write a w).next = m.next := by unfold Mem.write; split <;> rfl
theorem flipE_ok {m : Mem} {a b : Nat} (ha : a < m.code.length) (hb : b ≤ 38) : m.flipE a b = 0 := by
  unfold Mem.flipE
  rw [if_pos ⟨decide_eq_true (by omega), decide_eq_true (by omega)⟩]
theorem writeE_ok {m : Mem} {a : Nat} (ha : a < m.code.length) (ho : m.off = false) : m.writeE a = 0 := by
  unfold Mem.writeE Mem.has
  rw [if_pos (decide_eq_true (by omega)), if_neg (by simp [ho])]
/-- Without a fuse the power stays on. -/
theorem write_on {m : Mem} (a : Int) (w : Nat) (ho : m.off = false) (hl : m.left = 0) : (m.write a w).off = false ∧ (m.write a w).left = 0 := by
  unfold Mem.write
  split
  · exact ⟨by simp [hl], by simp [hl]⟩
  · exact ⟨ho, hl⟩
theorem write_count {m : Mem} {a : Nat} (ha : a < m.code.length) (ho : m.off = false) (w : Nat) : (m.write a w).count = m.count + 1 := by
  unfold Mem.write
  rw [if_pos ⟨decide_eq_true (by omega), ho⟩]
theorem read_at {m : Mem} {a : Nat} (ha : a < m.code.length) : m.readR a = if (E.dec (m.at a)).2 = 2 then (0, 20) else ((E.dec (m.at a)).1, 0) := by
  unfold Mem.readR Mem.has
  rw [if_pos (decide_eq_true (by omega)), Int.toNat_natCast]
theorem read_good {m : Mem} {a w s : Nat} (ha : a < m.code.length) (h : E.dec (m.at a) = (w, s)) (hs : s ≠ 2) : m.readR a = (w, 0) := by rw [read_at ha, h, if_neg hs]
theorem read_bad {m : Mem} {a : Nat} (ha : a < m.code.length) (h : (E.dec (m.at a)).2 = 2) : m.readR a = (0, 20) := by rw [read_at ha, if_pos h]
theorem fix_enc {w : Nat} (hw : w < 4294967296) : fix (E.enc w) = E.enc w := by
  unfold fix
  rw [E.dec_enc (E.enc_ok hw), if_neg (by simp)]
theorem fix_one {w i : Nat} (hw : w < 4294967296) (hi : i < 39) : fix (E.enc w ^^^ 2 ^ i) = E.enc w := by
  unfold fix
  rw [E.dec_one (E.enc_ok hw) hi, if_pos rfl]
theorem fix_two {w i j : Nat} (hw : w < 4294967296) (hi : i < 39) (hj : j < 39) (hij : i ≠ j) : fix (E.enc w ^^^ 2 ^ i ^^^ 2 ^ j) = E.enc w ^^^ 2 ^ i ^^^ 2 ^ j := by
  unfold fix
  rw [E.dec_two (E.enc_ok hw) hi hj hij, if_neg (by simp)]
end M
end Go.Proofs.YtnoohhpajoaaoaaDoor
