/-
  Leap tables as data.
-/
import Derived.Test.YtlmbpbhdbgadjaaKOpen
import Derived.Test.YtlmbpbhdbgadjaaKMath
namespace Go.Proofs.Ytlmbpbhdbgadjaa
namespace K
set_option linter.unusedVariables false
/-- How many entries lie at or before a tick. -/
def seg (t : List Lp) (n : Int) : Nat := t.countP fun x => decide (x.pos ≤ n)
/-- The offset of a segment. -/
def off (t : List Lp) : Nat → Int
  | 0 => 0
  | i + 1 => match t[i]? with | some x => x.off | none => 0
def civ (t : List Lp) (n : Int) : Int := n + off t (seg t n)
/-- The tick of a civil time in a segment, if there is one. -/
def tk (t : List Lp) (c : Int) (i : Nat) : Option Int := if 0 ≤ c - off t i ∧ c - off t i ≤ 1000000 ∧ seg t (c - off t i) = i then some (c - off t i) else none
def tks (t : List Lp) (c : Int) (k : Nat) : List Int := (List.range k).filterMap (tk t c)
structure Sorted (t : List Lp) : Prop where
  up : ∀ (i j : Nat) (x y : Lp), t[i]? = some x → t[j]? = some y → i < j → x.pos < y.pos
  rng : ∀ x ∈ t, 0 ≤ x.pos ∧ x.pos ≤ 1000000 ∧ -100 ≤ x.off ∧ x.off ≤ 100
theorem seg_le (t : List Lp) (n : Int) : seg t n ≤ t.length := List.countP_le_length
theorem seg_mono (t : List Lp) {a b : Int} (h : a ≤ b) : seg t a ≤ seg t b :=
  List.countP_mono_left fun x _ hx => by simp only [decide_eq_true_eq] at hx ⊢; omega
theorem tks_succ (t : List Lp) (c : Int) (k : Nat) : tks t c (k + 1) = tks t c k ++ (tk t c k).toList := by
  unfold tks
  rw [List.range_succ, List.filterMap_append]
  cases h : tk t c k <;> simp [h]
theorem tks_len (t : List Lp) (c : Int) : ∀ k, (tks t c k).length ≤ k
  | 0 => Nat.le_refl _
  | k + 1 => by
    rw [tks_succ, List.length_append]
    have := tks_len t c k
    have h2 : (tk t c k).toList.length ≤ 1 := by cases tk t c k <;> simp
    omega
theorem tk_some {t : List Lp} {c n : Int} {i : Nat} (h : tk t c i = some n) : n = c - off t i ∧ 0 ≤ n ∧ n ≤ 1000000 ∧ seg t n = i := by
  unfold tk at h
  split at h
  · rename_i hc
    obtain rfl := Option.some.inj h
    exact ⟨rfl, hc⟩
  · cases h
theorem tks_mem {t : List Lp} {c n : Int} {k : Nat} : n ∈ tks t c k ↔ ∃ i, i < k ∧ tk t c i = some n := by
  unfold tks; simp [List.mem_filterMap]
theorem tks_civ {t : List Lp} {c n : Int} {k : Nat} (h : n ∈ tks t c k) : civ t n = c ∧ 0 ≤ n ∧ n ≤ 1000000 := by
  obtain ⟨i, _, hi⟩ := tks_mem.1 h
  obtain ⟨e, h0, h1, hs⟩ := tk_some hi
  unfold civ
  rw [hs]
  omega
theorem tks_has (t : List Lp) {n : Int} (h : 0 ≤ n ∧ n ≤ 1000000) : n ∈ tks t (civ t n) (t.length + 1) := by
  refine tks_mem.2 ⟨seg t n, by have := seg_le t n; omega, ?_⟩
  have e : civ t n - off t (seg t n) = n := by unfold civ; omega
  unfold tk
  rw [e, if_pos ⟨h.1, h.2, rfl⟩]
theorem tks_up {t : List Lp} {c : Int} : ∀ k (i : Nat) (a b : Int), (tks t c k)[i]? = some a → (tks t c k)[i + 1]? = some b → a < b
  | 0, i, a, b, h, _ => by simp [tks] at h
  | k + 1, i, a, b, h, h2 => by
    rw [tks_succ] at h h2
    rcases Nat.lt_or_ge (i + 1) (tks t c k).length with hl | hl
    · rw [List.getElem?_append_left (by omega)] at h
      rw [List.getElem?_append_left (by omega)] at h2
      exact tks_up k i a b h h2
    · rw [List.getElem?_append_right (by omega)] at h2
      cases hk : tk t c k with
      | none => rw [hk] at h2; simp at h2
      | some m =>
        rw [hk] at h2
        have hi : i + 1 = (tks t c k).length := by
          have := (List.getElem?_eq_some_iff.1 h2).1
          simp at this; omega
        rw [hi] at h2
        simp at h2
        subst h2
        rw [List.getElem?_append_left (by omega)] at h
        obtain ⟨j, hj, hjk⟩ := tks_mem.1 (List.mem_of_getElem? h)
        obtain ⟨_, _, _, s1⟩ := tk_some hjk
        obtain ⟨_, _, _, s2⟩ := tk_some hk
        by_cases hab : a < m
        · exact hab
        · have := seg_mono t (show m ≤ a by omega)
          omega
/-- In a sorted table the entries at or before a tick are the first ones. -/
theorem seg_first {t : List Lp} (hs : ∀ (i j : Nat) (x y : Lp), t[i]? = some x → t[j]? = some y → i < j → x.pos < y.pos) {n : Int} {k : Nat} (hk : k ≤ t.length) (h0 : ∀ i x, t[i]? = some x → i < k → x.pos ≤ n) (h1 : ∀ i x, t[i]? = some x → k ≤ i → n < x.pos) : seg t n = k := by
  unfold seg
  rw [← List.take_append_drop k t, List.countP_append]
  have e1 : (t.take k).countP (fun x => decide (x.pos ≤ n)) = (t.take k).length := List.countP_eq_length.2 fun x hx => by
    obtain ⟨i, hi⟩ := List.mem_iff_getElem?.1 hx
    rw [List.getElem?_take] at hi
    split at hi
    · simpa using h0 i x hi (by omega)
    · cases hi
  have e2 : (t.drop k).countP (fun x => decide (x.pos ≤ n)) = 0 := List.countP_eq_zero.2 fun x hx => by
    obtain ⟨i, hi⟩ := List.mem_iff_getElem?.1 hx
    rw [List.getElem?_drop] at hi
    have := h1 _ x hi (by omega)
    simp; omega
  rw [e1, e2, List.length_take]
  omega
theorem seg_at {t : List Lp} (hs : ∀ (i j : Nat) (x y : Lp), t[i]? = some x → t[j]? = some y → i < j → x.pos < y.pos) (n : Int) : (∀ i x, t[i]? = some x → i < seg t n → x.pos ≤ n) ∧ (∀ i x, t[i]? = some x → seg t n ≤ i → n < x.pos) := by
  have hex : ∃ k, k ≤ t.length ∧ (∀ i x, t[i]? = some x → i < k → x.pos ≤ n) ∧ (∀ i x, t[i]? = some x → k ≤ i → n < x.pos) := by
    have key : ∀ m, m ≤ t.length → ∃ k, k ≤ m ∧ (∀ i x, t[i]? = some x → i < k → x.pos ≤ n) ∧ (∀ i x, t[i]? = some x → k ≤ i → i < m → n < x.pos) := by
      intro m
      induction m with
      | zero => intro _; exact ⟨0, Nat.le_refl _, fun i x _ h => absurd h (Nat.not_lt_zero _), fun i x _ _ h => absurd h (Nat.not_lt_zero _)⟩
      | succ m ih =>
        intro hm
        obtain ⟨k, hk, a, b⟩ := ih (by omega)
        obtain ⟨y, hy⟩ : ∃ y, t[m]? = some y := ⟨t[m], List.getElem?_eq_getElem (by omega)⟩
        by_cases hyn : y.pos ≤ n
        · refine ⟨m + 1, Nat.le_refl _, fun i x hx hi => ?_, fun i x _ h1 h2 => absurd h1 (by omega)⟩
          rcases Nat.lt_or_ge i m with h | h
          · have := hs i m x y hx hy h; omega
          · obtain rfl : i = m := by omega
            rw [hy] at hx; obtain rfl := Option.some.inj hx; exact hyn
        · refine ⟨k, by omega, a, fun i x hx h1 h2 => ?_⟩
          rcases Nat.lt_or_ge i m with h | h
          · exact b i x hx h1 h
          · obtain rfl : i = m := by omega
            rw [hy] at hx; obtain rfl := Option.some.inj hx; omega
    obtain ⟨k, hk, a, b⟩ := key t.length (Nat.le_refl _)
    exact ⟨k, hk, a, fun i x hx h => b i x hx h (List.getElem?_eq_some_iff.1 hx).1⟩
  obtain ⟨k, hk, a, b⟩ := hex
  rw [seg_first hs hk a b]
  exact ⟨a, b⟩
/-- What is wrong at an entry. -/
def bad (t : List Lp) (i : Nat) : Int :=
  match t[i]? with
  | none => 0
  | some x => if x.pos < 0 ∨ 1000000 < x.pos ∨ x.off < -100 ∨ 100 < x.off then 5 else
    match i with
    | 0 => 0
    | j + 1 => match t[j]? with | none => 0 | some y => if x.pos ≤ y.pos then 23 else 0
def badFrom (t : List Lp) (i : Nat) : Nat → Int
  | 0 => 0
  | k + 1 => if bad t i = 0 then badFrom t (i + 1) k else bad t i
def chk (t : List Lp) : Int := if 32 < t.length then 2 else badFrom t 0 t.length
theorem badFrom_ok {t : List Lp} : ∀ k i, (∀ j, i ≤ j → j < i + k → bad t j = 0) → badFrom t i k = 0
  | 0, _, _ => rfl
  | k + 1, i, h => by
    unfold badFrom
    rw [if_pos (h i (Nat.le_refl _) (by omega))]
    exact badFrom_ok k (i + 1) fun j h1 h2 => h j (by omega) (by omega)
theorem badFrom_at {t : List Lp} : ∀ k i m, i ≤ m → m < i + k → (∀ j, i ≤ j → j < m → bad t j = 0) → bad t m ≠ 0 → badFrom t i k = bad t m
  | 0, i, m, h1, h2, _, _ => by omega
  | k + 1, i, m, h1, h2, h, hb => by
    unfold badFrom
    rcases Nat.lt_or_ge i m with hl | hl
    · rw [if_pos (h i (Nat.le_refl _) hl)]
      exact badFrom_at k (i + 1) m (by omega) (by omega) (fun j a b => h j (by omega) b) hb
    · obtain rfl : i = m := by omega
      rw [if_neg hb]
theorem chk_at {t : List Lp} {m : Nat} {e : Int} (hl : t.length ≤ 32) (hm : m < t.length) (h : ∀ j, j < m → bad t j = 0) (he : bad t m = e) (h0 : e ≠ 0) : chk t = e := by
  unfold chk
  rw [if_neg (by omega), badFrom_at t.length 0 m (Nat.zero_le _) (by omega) (fun j _ hj => h j hj) (by rw [he]; exact h0), he]
theorem chk_ok {t : List Lp} (hl : t.length ≤ 32) (h : ∀ j, j < t.length → bad t j = 0) : chk t = 0 := by
  unfold chk
  rw [if_neg (by omega), badFrom_ok t.length 0 fun j _ hj => h j (by omega)]
theorem chk_sorted {t : List Lp} (hl : t.length ≤ 32) (hs : Sorted t) : chk t = 0 := chk_ok hl fun j hj => by
  obtain ⟨x, hx⟩ : ∃ x, t[j]? = some x := ⟨t[j], List.getElem?_eq_getElem hj⟩
  have hr := hs.rng x (List.mem_of_getElem? hx)
  unfold bad
  rw [hx]
  dsimp only
  rw [if_neg (by omega)]
  cases j with
  | zero => rfl
  | succ j =>
    dsimp only
    obtain ⟨y, hy⟩ : ∃ y, t[j]? = some y := ⟨t[j], List.getElem?_eq_getElem (by omega)⟩
    rw [hy]
    dsimp only
    rw [if_neg (by have := hs.up j (j + 1) y x hy hx (by omega); omega)]
end K
end Go.Proofs.Ytlmbpbhdbgadjaa
