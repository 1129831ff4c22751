/-
  The code: a code word is determined by its data, its syndrome and its parity; encoding, decoding, and the properties.
-/
import Derived.Test.YtnoohhpajoaaoaaDoorEMath
namespace Go.Proofs.YtnoohhpajoaaoaaDoor
namespace E
set_option linter.unusedVariables false
/-! ### Uniqueness -/
theorem only_checks {z : Nat} (hz : z < 2 ^ 39) (hd : dat z 38 = 0) : ∀ i, z.testBit i = true → i = 0 ∨ i = 1 ∨ i = 3 ∨ i = 7 ∨ i = 15 ∨ i = 31 ∨ i = 38 := by
  intro i hi
  have h1 : i < 39 := by
    rcases Nat.lt_or_ge i 39 with h | h
    · exact h
    · rw [Nat.testBit_lt_two_pow (Nat.lt_of_lt_of_le hz (Nat.pow_le_pow_right (by omega) h))] at hi; cases hi
  by_cases h2 : i = 38
  · omega
  · cases hc : chk (i + 1) with
    | true =>
      unfold chk at hc
      simp at hc
      omega
    | false =>
      have := dat_none (k := 38) (by omega) hd (i + 1) (by omega) (by omega) hc
      rw [Nat.add_sub_cancel, hi] at this
      cases this
theorem syn_step_false {z n : Nat} (h : z.testBit n = false) : syn z (n + 1) = syn z n := by rw [syn, h]; exact Nat.xor_zero _
theorem syn_gap {z m : Nat} : ∀ k, (∀ i, m ≤ i → i < m + k → z.testBit i = false) → syn z (m + k) = syn z m
  | 0, _ => rfl
  | k + 1, h => by
    rw [← Nat.add_assoc, syn_step_false (h (m + k) (by omega) (by omega))]
    exact syn_gap k (fun i h1 h2 => h i h1 (by omega))
theorem syn_checks {z : Nat} (h : ∀ i, z.testBit i = true → i = 0 ∨ i = 1 ∨ i = 3 ∨ i = 7 ∨ i = 15 ∨ i = 31 ∨ i = 38) :
    syn z 38 = pt 1 (z.testBit 0) ^^^ pt 2 (z.testBit 1) ^^^ pt 4 (z.testBit 3) ^^^ pt 8 (z.testBit 7) ^^^ pt 16 (z.testBit 15) ^^^ pt 32 (z.testBit 31) := by
  have no : ∀ i, (i ≠ 0 ∧ i ≠ 1 ∧ i ≠ 3 ∧ i ≠ 7 ∧ i ≠ 15 ∧ i ≠ 31 ∧ i ≠ 38) → z.testBit i = false := fun i hi => by
    cases hb : z.testBit i with
    | false => rfl
    | true => have := h i hb; omega
  have e6 : syn z 38 = syn z 32 := syn_gap 6 (fun i h1 h2 => no i (by omega))
  have e5 : syn z 31 = syn z 16 := syn_gap 15 (fun i h1 h2 => no i (by omega))
  have e4 : syn z 15 = syn z 8 := syn_gap 7 (fun i h1 h2 => no i (by omega))
  have e3 : syn z 7 = syn z 4 := syn_gap 3 (fun i h1 h2 => no i (by omega))
  have e2 : syn z 3 = syn z 2 := syn_gap 1 (fun i h1 h2 => no i (by omega))
  have f6 : syn z 32 = syn z 31 ^^^ pt 32 (z.testBit 31) := rfl
  have f5 : syn z 16 = syn z 15 ^^^ pt 16 (z.testBit 15) := rfl
  have f4 : syn z 8 = syn z 7 ^^^ pt 8 (z.testBit 7) := rfl
  have f3 : syn z 4 = syn z 3 ^^^ pt 4 (z.testBit 3) := rfl
  have f2 : syn z 2 = syn z 1 ^^^ pt 2 (z.testBit 1) := rfl
  have f1 : syn z 1 = 0 ^^^ pt 1 (z.testBit 0) := rfl
  rw [e6, f6, e5, f5, e4, f4, e3, f3, e2, f2, f1, Nat.zero_xor]
theorem bits6 : ∀ a b c d e f : Bool, pt 1 a ^^^ pt 2 b ^^^ pt 4 c ^^^ pt 8 d ^^^ pt 16 e ^^^ pt 32 f = 0 → a = false ∧ b = false ∧ c = false ∧ d = false ∧ e = false ∧ f = false := by
  intro a b c d e f
  cases a <;> cases b <;> cases c <;> cases d <;> cases e <;> cases f <;> decide
/-- Without data, syndrome and parity nothing is left. -/
theorem nothing {z : Nat} (hz : z < 2 ^ 39) (hd : dat z 38 = 0) (hs : syn z 38 = 0) (hp : cnt z 39 % 2 = 0) : z = 0 := by
  have h := only_checks hz hd
  rw [syn_checks h] at hs
  obtain ⟨h0, h1, h3, h7, h15, h31⟩ := bits6 _ _ _ _ _ _ hs
  have hlow : ∀ i, i < 38 → z.testBit i = false := fun i hi => by
    cases hb : z.testBit i with
    | false => rfl
    | true =>
      rcases h i hb with rfl | rfl | rfl | rfl | rfl | rfl | rfl
      · rw [hb] at h0; cases h0
      · rw [hb] at h1; cases h1
      · rw [hb] at h3; cases h3
      · rw [hb] at h7; cases h7
      · rw [hb] at h15; cases h15
      · rw [hb] at h31; cases h31
      · omega
  have hc : cnt z 38 = 0 := by
    have := cnt_congr (a := z) (b := 0) (n := 38) (fun i hi => by rw [hlow i hi, Nat.zero_testBit])
    rw [this, cnt_zero]
  have h39 : cnt z 39 = cnt z 38 + (z.testBit 38).toNat := rfl
  have hb : z.testBit 38 = false := by
    cases hb : z.testBit 38 with
    | false => rfl
    | true => rw [h39, hc, hb] at hp; cases hp
  exact eq_zero_of hz (by rw [h39, hc, hb]; rfl)
theorem unique {x y : Nat} (hx : x < 2 ^ 39) (hy : y < 2 ^ 39) (hd : dat x 38 = dat y 38) (hs : syn x 38 = syn y 38) (hp : cnt x 39 % 2 = cnt y 39 % 2) : x = y := by
  apply xor_zero_iff.1
  refine nothing (Nat.xor_lt_two_pow hx hy) ?_ ?_ ?_
  · rw [dat_xor, hd, Nat.xor_self]
  · rw [syn_xor, hs, Nat.xor_self]
  · rw [cnt_xor]; omega
/-! ### Encoding -/
/-- x is the code word of w. -/
structure Enc (w x : Nat) : Prop where
  lt : x < 2 ^ 39
  dat : dat x 38 = w
  syn : syn x 38 = 0
  even : cnt x 39 % 2 = 0
theorem Enc.eq {w x y : Nat} (hx : Enc w x) (hy : Enc w y) : x = y := unique hx.lt hy.lt (by rw [hx.dat, hy.dat]) (by rw [hx.syn, hy.syn]) (by rw [hx.even, hy.even])
theorem Enc.xor {a b x y : Nat} (hx : Enc a x) (hy : Enc b y) : Enc (a ^^^ b) (x ^^^ y) :=
  ⟨Nat.xor_lt_two_pow hx.lt hy.lt, by rw [dat_xor, hx.dat, hy.dat], by rw [syn_xor, hx.syn, hy.syn]; exact Nat.xor_self 0, by rw [cnt_xor]; have := hx.even; have := hy.even; omega⟩
theorem Enc.zero : Enc 0 0 := ⟨by decide, dat_zero _, syn_zero _, by rw [cnt_zero]⟩
/-- The first m positions of the data of w: what is spread, and what is left. -/
def spr (w : Nat) : Nat → Nat × Nat
  | 0 => (0, w)
  | p + 1 => if chk (p + 1) then spr w p else ((spr w p).1 + (spr w p).2 % 2 * 2 ^ p, (spr w p).2 / 2)
theorem spr_lt (w : Nat) : ∀ p, (spr w p).1 < 2 ^ p
  | 0 => Nat.zero_lt_succ _
  | p + 1 => by
    have ih := spr_lt w p
    rw [spr, Nat.pow_succ]
    cases chk (p + 1) with
    | true => simp only [if_true]; omega
    | false =>
      simp only [if_neg (show ¬ (false = true) by decide)]
      have h2 : (spr w p).2 % 2 < 2 := Nat.mod_lt _ (by omega)
      rcases (show (spr w p).2 % 2 = 0 ∨ (spr w p).2 % 2 = 1 by omega) with h | h <;> rw [h] <;> omega
theorem low_bit {c p : Nat} (hc : c < 2 ^ p) (r : Nat) (hr : r < 2) : ∀ i, (c + r * 2 ^ p).testBit i = if i = p then decide (r = 1) else c.testBit i := by
  have hcp : c.testBit p = false := Nat.testBit_lt_two_pow hc
  intro i
  rcases (show r = 0 ∨ r = 1 by omega) with rfl | rfl
  · rw [Nat.zero_mul, Nat.add_zero]
    split
    · next h => subst h; rw [hcp]; rfl
    · rfl
  · rw [Nat.one_mul, ← xor_eq_add p c hcp, Nat.testBit_xor, Nat.testBit_two_pow]
    split
    · next h => subst h; rw [hcp]; simp
    · next h => rw [decide_eq_false (fun e => h e.symm), Bool.xor_false]
/-- How many data positions are among the first p. -/
def up : Nat → Nat
  | 0 => 0
  | p + 1 => if chk (p + 1) then up p else up p + 1
theorem spr_rest (w : Nat) : ∀ p, (spr w p).2 = w / 2 ^ up p
  | 0 => (Nat.div_one w).symm
  | p + 1 => by
    have ih := spr_rest w p
    rw [spr, up]
    cases chk (p + 1) with
    | true => simpa using ih
    | false =>
      simp only [if_neg (show ¬ (false = true) by decide)]
      rw [ih, Nat.pow_succ, Nat.div_div_eq_div_mul]
theorem spr_bit (w : Nat) : ∀ p i, i < p → (spr w p).1.testBit i = (!chk (i + 1) && w.testBit (up i))
  | 0, i, hi => by omega
  | p + 1, i, hi => by
    rw [spr]
    cases hc : chk (p + 1) with
    | true =>
      simp only [if_true]
      by_cases e : i = p
      · subst e
        rw [Nat.testBit_lt_two_pow (spr_lt w i), hc]; rfl
      · exact spr_bit w p i (by omega)
    | false =>
      simp only [if_neg (show ¬ (false = true) by decide)]
      rw [low_bit (spr_lt w p) _ (Nat.mod_lt _ (by omega))]
      by_cases e : i = p
      · subst e
        rw [if_pos rfl, hc, spr_rest, Nat.testBit_eq_decide_div_mod_eq]; rfl
      · rw [if_neg e]; exact spr_bit w p i (by omega)
/-- The data of numbers with the right bits. -/
theorem dat_of {c w : Nat} (h : ∀ i, i < 38 → chk (i + 1) = false → c.testBit i = w.testBit (up i)) (hw : w < 4294967296) : ∀ k, k ≤ 38 → dat c k = w / 2 ^ up (38 - k)
  | 0, _ => by
    show 0 = w / 2 ^ up 38
    have : up 38 = 32 := by decide
    rw [this, Nat.div_eq_of_lt hw]
  | k + 1, hk => by
    have ih := dat_of h hw k (by omega)
    obtain ⟨m, hm⟩ : ∃ m, 38 - k = m + 1 := ⟨37 - k, by omega⟩
    have hm1 : 38 - (k + 1) = m := by omega
    have hm2 : 37 - k = m := by omega
    rw [dat, ih, hm, hm1, hm2, up]
    cases hc : chk (m + 1) with
    | true => simp only [if_true]
    | false =>
      simp only [if_neg (show ¬ (false = true) by decide)]
      rw [h m (by omega) hc, bit_toNat, Nat.pow_succ, ← Nat.div_div_eq_div_mul]
      omega
/-! ### The code word -/
/-- b times 2^q is added where bit q is free. -/
theorem add_pt {c q : Nat} (h : c.testBit q = false) (b : Bool) : c + b.toNat * 2 ^ q = c ^^^ pt (2 ^ q) b := by
  cases b with
  | true => rw [Bool.toNat_true, Nat.one_mul, pt, xor_eq_add q c h]
  | false => rw [Bool.toNat_false, Nat.zero_mul, Nat.add_zero, pt, Nat.xor_zero]
theorem pt_bit (q : Nat) (b : Bool) (i : Nat) : (pt (2 ^ q) b).testBit i = (b && decide (q = i)) := by
  cases b with
  | true => rw [pt, Nat.testBit_two_pow, Bool.true_and]
  | false => rw [pt, Nat.zero_testBit, Bool.false_and]
theorem syn_pt {q : Nat} (hq : q < 38) (b : Bool) : syn (pt (2 ^ q) b) 38 = pt (q + 1) b := by
  cases b with
  | true => rw [pt, syn_pow, if_pos hq]; rfl
  | false => rw [pt, syn_zero]; rfl
theorem dat_pt {q : Nat} (hq : q < 38) (h : chk (q + 1) = true) (b : Bool) : dat (pt (2 ^ q) b) 38 = 0 := by
  rw [← dat_zero 38]
  refine dat_congr (by omega) (fun p h1 h2 hp => ?_)
  rw [pt_bit, Nat.zero_testBit]
  cases b with
  | false => rfl
  | true =>
    rw [Bool.true_and, decide_eq_false_iff_not]
    intro e
    rw [show p = q + 1 by omega, h] at hp
    cases hp
theorem own_bits (s : Nat) (h : s < 64) : s ^^^ pt 1 (s.testBit 0) ^^^ pt 2 (s.testBit 1) ^^^ pt 4 (s.testBit 2) ^^^ pt 8 (s.testBit 3) ^^^ pt 16 (s.testBit 4) ^^^ pt 32 (s.testBit 5) = 0 := by
  have h1 : ∀ s : Fin 64, s.val ^^^ pt 1 (s.val.testBit 0) ^^^ pt 2 (s.val.testBit 1) ^^^ pt 4 (s.val.testBit 2) ^^^ pt 8 (s.val.testBit 3) ^^^ pt 16 (s.val.testBit 4) ^^^ pt 32 (s.val.testBit 5) = 0 := by decide +kernel
  exact h1 ⟨s, h⟩
/-- The word with its check bits: c, and the bits of s. -/
def cks (c s : Nat) : Nat → Nat
  | 0 => c
  | j + 1 => cks c s j + (s.testBit j).toNat * 2 ^ (2 ^ j - 1)
theorem cks_eq {c s : Nat} (h : ∀ i, chk (i + 1) = true → c.testBit i = false) :
    cks c s 6 = c ^^^ pt 1 (s.testBit 0) ^^^ pt 2 (s.testBit 1) ^^^ pt 8 (s.testBit 2) ^^^ pt 128 (s.testBit 3) ^^^ pt 32768 (s.testBit 4) ^^^ pt 2147483648 (s.testBit 5) := by
  have h0 : cks c s 1 = c ^^^ pt 1 (s.testBit 0) := add_pt (q := 0) (h 0 rfl) _
  have h1 : cks c s 2 = cks c s 1 ^^^ pt 2 (s.testBit 1) := add_pt (q := 1) (by rw [h0, Nat.testBit_xor, h 1 rfl, pt_bit 0]; simp) _
  have h2 : cks c s 3 = cks c s 2 ^^^ pt 8 (s.testBit 2) := add_pt (q := 3) (by rw [h1, h0, Nat.testBit_xor, Nat.testBit_xor, h 3 rfl, pt_bit 0, pt_bit 1]; simp) _
  have h3 : cks c s 4 = cks c s 3 ^^^ pt 128 (s.testBit 3) := add_pt (q := 7) (by rw [h2, h1, h0, Nat.testBit_xor, Nat.testBit_xor, Nat.testBit_xor, h 7 rfl, pt_bit 0, pt_bit 1, pt_bit 3]; simp) _
  have h4 : cks c s 5 = cks c s 4 ^^^ pt 32768 (s.testBit 4) := add_pt (q := 15) (by rw [h3, h2, h1, h0, Nat.testBit_xor, Nat.testBit_xor, Nat.testBit_xor, Nat.testBit_xor, h 15 rfl, pt_bit 0, pt_bit 1, pt_bit 3, pt_bit 7]; simp) _
  have h5 : cks c s 6 = cks c s 5 ^^^ pt 2147483648 (s.testBit 5) := add_pt (q := 31) (by rw [h4, h3, h2, h1, h0, Nat.testBit_xor, Nat.testBit_xor, Nat.testBit_xor, Nat.testBit_xor, Nat.testBit_xor, h 31 rfl, pt_bit 0, pt_bit 1, pt_bit 3, pt_bit 7, pt_bit 15]; simp) _
  rw [h5, h4, h3, h2, h1, h0]
/-- The code word of w. -/
def enc (w : Nat) : Nat :=
  let c := (spr w 38).1
  let d := cks c (syn c 38) 6
  d + cnt d 38 % 2 * 2 ^ 38
theorem pt_lt {q n : Nat} (h : q < n) (b : Bool) : pt (2 ^ q) b < 2 ^ n := by
  cases b with
  | true => exact Nat.pow_lt_pow_right (by omega) h
  | false => exact Nat.pow_pos (by omega)
theorem enc_ok {w : Nat} (hw : w < 4294967296) : Enc w (enc w) := by
  have hc := spr_lt w 38
  have hb := spr_bit w 38
  have hfree : ∀ i, chk (i + 1) = true → (spr w 38).1.testBit i = false := fun i hi => by
    by_cases h : i < 38
    · rw [hb i h, hi]; rfl
    · exact Nat.testBit_lt_two_pow (Nat.lt_of_lt_of_le hc (Nat.pow_le_pow_right (by omega) (by omega)))
  have hdat : dat (spr w 38).1 38 = w := by
    have := dat_of (c := (spr w 38).1) (w := w) (fun i hi hk => by rw [hb i hi, hk]; rfl) hw 38 (by omega)
    rw [this]
    exact Nat.div_one w
  unfold enc
  simp only []
  generalize (spr w 38).1 = c at *
  have hs := syn_lt c 38 (by omega)
  have he := cks_eq (s := syn c 38) hfree
  have hob := own_bits _ hs
  generalize hS : syn c 38 = s at *
  have hD : dat (cks c s 6) 38 = w := by
    rw [he]
    simp only [dat_xor]
    rw [show dat (pt 1 (s.testBit 0)) 38 = 0 from dat_pt (q := 0) (by omega) rfl _, show dat (pt 2 (s.testBit 1)) 38 = 0 from dat_pt (q := 1) (by omega) rfl _, show dat (pt 8 (s.testBit 2)) 38 = 0 from dat_pt (q := 3) (by omega) rfl _,
      show dat (pt 128 (s.testBit 3)) 38 = 0 from dat_pt (q := 7) (by omega) rfl _, show dat (pt 32768 (s.testBit 4)) 38 = 0 from dat_pt (q := 15) (by omega) rfl _, show dat (pt 2147483648 (s.testBit 5)) 38 = 0 from dat_pt (q := 31) (by omega) rfl _]
    simp only [Nat.xor_zero]
    exact hdat
  have hSy : syn (cks c s 6) 38 = 0 := by
    rw [he]
    simp only [syn_xor]
    rw [show syn (pt 1 (s.testBit 0)) 38 = pt 1 (s.testBit 0) from syn_pt (q := 0) (by omega) _, show syn (pt 2 (s.testBit 1)) 38 = pt 2 (s.testBit 1) from syn_pt (q := 1) (by omega) _, show syn (pt 8 (s.testBit 2)) 38 = pt 4 (s.testBit 2) from syn_pt (q := 3) (by omega) _,
      show syn (pt 128 (s.testBit 3)) 38 = pt 8 (s.testBit 3) from syn_pt (q := 7) (by omega) _, show syn (pt 32768 (s.testBit 4)) 38 = pt 16 (s.testBit 4) from syn_pt (q := 15) (by omega) _, show syn (pt 2147483648 (s.testBit 5)) 38 = pt 32 (s.testBit 5) from syn_pt (q := 31) (by omega) _, hS]
    exact hob
  have hlt : cks c s 6 < 2 ^ 38 := by
    rw [he]
    exact Nat.xor_lt_two_pow (Nat.xor_lt_two_pow (Nat.xor_lt_two_pow (Nat.xor_lt_two_pow (Nat.xor_lt_two_pow (Nat.xor_lt_two_pow hc (pt_lt (q := 0) (by omega) _)) (pt_lt (q := 1) (by omega) _)) (pt_lt (q := 3) (by omega) _)) (pt_lt (q := 7) (by omega) _)) (pt_lt (q := 15) (by omega) _)) (pt_lt (q := 31) (by omega) _)
  generalize cks c s 6 = d at *
  have hb38 : d.testBit 38 = false := Nat.testBit_lt_two_pow hlt
  obtain ⟨b, hbn⟩ : ∃ b : Bool, cnt d 38 % 2 = b.toNat := by
    rcases (show cnt d 38 % 2 = 0 ∨ cnt d 38 % 2 = 1 by omega) with h | h
    · exact ⟨false, h⟩
    · exact ⟨true, h⟩
  rw [hbn, add_pt hb38]
  have h38 : dat (pt (2 ^ 38) b) 38 = 0 := by
    rw [← dat_zero 38]
    refine dat_congr (by omega) (fun p h1 h2 hp => ?_)
    rw [pt_bit, Nat.zero_testBit, decide_eq_false (by omega), Bool.and_false]
  have s38 : syn (pt (2 ^ 38) b) 38 = 0 := by
    cases b with
    | true => rw [pt, syn_pow, if_neg (by omega)]
    | false => exact syn_zero _
  refine ⟨Nat.xor_lt_two_pow (Nat.lt_of_lt_of_le hlt (Nat.pow_le_pow_right (by omega) (by omega))) (pt_lt (by omega) _), by rw [dat_xor, hD, h38, Nat.xor_zero], by rw [syn_xor, hSy, s38]; exact Nat.xor_zero 0, ?_⟩
  rw [cnt_xor]
  have h1 : cnt d 39 = cnt d 38 := cnt_app hlt (by omega)
  have h2 : cnt (pt (2 ^ 38) b) 39 = b.toNat := by
    cases b with
    | true => rw [pt, cnt_pow, if_pos (by omega)]; rfl
    | false => exact cnt_zero _
  rw [h1, h2]
  omega
/-! ### Decoding -/
def dec (c : Nat) : Nat × Nat :=
  if 2 ^ 39 ≤ c then (0, 2)
  else if cnt c 39 % 2 = 0 then (if syn c 38 = 0 then (dat c 38, 0) else (0, 2))
  else if 38 < syn c 38 then (0, 2)
  else (dat (if syn c 38 = 0 then c else c ^^^ 2 ^ (syn c 38 - 1)) 38, 1)
theorem dec_enc {w x : Nat} (h : Enc w x) : dec x = (w, 0) := by
  unfold dec
  rw [if_neg (Nat.not_le.2 h.lt), if_pos h.even, if_pos h.syn, h.dat]
/-- What a single bit says. -/
theorem syn_one (i : Nat) (hi : i < 39) : syn (2 ^ i) 38 = if i = 38 then 0 else i + 1 := by
  rw [syn_pow]
  by_cases h : i = 38
  · rw [if_pos h, if_neg (by omega)]
  · rw [if_neg h, if_pos (by omega)]
theorem dat_38 : dat (2 ^ 38) 38 = 0 := by
  rw [← dat_zero 38]
  refine dat_congr (by omega) (fun p h1 h2 hp => ?_)
  rw [Nat.testBit_two_pow, Nat.zero_testBit, decide_eq_false (by omega)]
theorem dec_one {w x : Nat} (h : Enc w x) {i : Nat} (hi : i < 39) : dec (x ^^^ 2 ^ i) = (w, 1) := by
  have hlt : x ^^^ 2 ^ i < 2 ^ 39 := Nat.xor_lt_two_pow h.lt (Nat.pow_lt_pow_right (by omega) hi)
  have hs : syn (x ^^^ 2 ^ i) 38 = if i = 38 then 0 else i + 1 := by rw [syn_xor, h.syn, Nat.zero_xor, syn_one i hi]
  have hp : cnt (x ^^^ 2 ^ i) 39 % 2 = 1 := by rw [cnt_xor, cnt_pow, if_pos hi]; have := h.even; omega
  unfold dec
  rw [if_neg (Nat.not_le.2 hlt), if_neg (by omega), hs]
  by_cases e : i = 38
  · subst e
    rw [if_pos rfl, if_neg (by omega), if_pos rfl, dat_xor, dat_38, Nat.xor_zero, h.dat]
  · rw [if_neg e, if_neg (by omega), if_neg (by omega), Nat.add_sub_cancel, xor_xor, h.dat]
theorem dec_two {w x : Nat} (h : Enc w x) {i j : Nat} (hi : i < 39) (hj : j < 39) (hij : i ≠ j) : dec (x ^^^ 2 ^ i ^^^ 2 ^ j) = (0, 2) := by
  have hlt : x ^^^ 2 ^ i ^^^ 2 ^ j < 2 ^ 39 := Nat.xor_lt_two_pow (Nat.xor_lt_two_pow h.lt (Nat.pow_lt_pow_right (by omega) hi)) (Nat.pow_lt_pow_right (by omega) hj)
  have hp : cnt (x ^^^ 2 ^ i ^^^ 2 ^ j) 39 % 2 = 0 := by
    rw [cnt_xor, cnt_pow, if_pos hj]
    have h1 := cnt_xor x (2 ^ i) 39
    rw [cnt_pow, if_pos hi] at h1
    have := h.even
    omega
  have hs : syn (x ^^^ 2 ^ i ^^^ 2 ^ j) 38 ≠ 0 := by
    rw [syn_xor, syn_xor, h.syn, Nat.zero_xor, syn_one i hi, syn_one j hj]
    intro e
    have e := xor_zero_iff.1 e
    split at e <;> split at e <;> omega
  unfold dec
  rw [if_neg (Nat.not_le.2 hlt), if_pos hp, if_neg hs]
theorem dec_high {c : Nat} (h : 2 ^ 39 ≤ c) : dec c = (0, 2) := by unfold dec; rw [if_pos h]
/-- What a clean or a corrected code word says. -/
theorem dec_clean {c : Nat} (h : (dec c).2 = 0) : c < 2 ^ 39 ∧ Enc (dec c).1 c := by
  unfold dec at *
  by_cases h1 : 2 ^ 39 ≤ c
  · rw [if_pos h1] at h; cases h
  · rw [if_neg h1] at h ⊢
    by_cases h2 : cnt c 39 % 2 = 0
    · rw [if_pos h2] at h ⊢
      by_cases h3 : syn c 38 = 0
      · rw [if_pos h3]; exact ⟨by omega, ⟨by omega, rfl, h3, h2⟩⟩
      · rw [if_neg h3] at h; cases h
    · rw [if_neg h2] at h
      by_cases h3 : 38 < syn c 38
      · rw [if_pos h3] at h; cases h
      · rw [if_neg h3] at h; cases h
theorem dec_corr {c : Nat} (h : (dec c).2 = 1) : ∃ i, i < 39 ∧ Enc (dec c).1 (c ^^^ 2 ^ i) := by
  unfold dec at *
  by_cases h1 : 2 ^ 39 ≤ c
  · rw [if_pos h1] at h; cases h
  · rw [if_neg h1] at h ⊢
    by_cases h2 : cnt c 39 % 2 = 0
    · rw [if_pos h2] at h
      by_cases h3 : syn c 38 = 0
      · rw [if_pos h3] at h; cases h
      · rw [if_neg h3] at h; cases h
    · rw [if_neg h2] at h ⊢
      by_cases h3 : 38 < syn c 38
      · rw [if_pos h3] at h; cases h
      · rw [if_neg h3]
        by_cases h4 : syn c 38 = 0
        · rw [if_pos h4]
          refine ⟨38, by omega, Nat.xor_lt_two_pow (by omega) (by decide), by rw [dat_xor, dat_38, Nat.xor_zero], by rw [syn_xor, h4, syn_pow]; exact Nat.xor_zero 0, ?_⟩
          rw [cnt_xor, cnt_pow, if_pos (by omega)]; omega
        · rw [if_neg h4]
          refine ⟨syn c 38 - 1, by omega, Nat.xor_lt_two_pow (by omega) (Nat.pow_lt_pow_right (by omega) (by omega)), rfl, ?_, ?_⟩
          · rw [syn_xor, syn_pow, if_pos (by omega), show syn c 38 - 1 + 1 = syn c 38 by omega, Nat.xor_self]
          · rw [cnt_xor, cnt_pow, if_pos (by omega)]; omega
theorem dec_le (c : Nat) : (dec c).2 ≤ 2 ∧ ((dec c).2 = 2 → (dec c).1 = 0) := by
  unfold dec
  repeat' split
  all_goals exact ⟨by simp only []; omega, fun h => by first | rfl | cases h⟩
theorem dec_lt (c : Nat) : (dec c).1 < 4294967296 := by
  unfold dec
  repeat' split
  all_goals first | exact dat_bound _ | decide
/-! ### Distances -/
/-- A code word with a bit inverted, if there is such a bit. -/
def flip (c : Nat) (b : Int) : Nat := if b < 0 ∨ 63 < b then c else c ^^^ 2 ^ b.toNat
theorem flip_in (c : Nat) {b : Nat} (h : b < 64) : flip c b = c ^^^ 2 ^ b := by unfold flip; rw [if_neg (by omega)]; rfl
theorem flip_lt {c : Nat} (h : c < 18446744073709551616) (b : Int) : flip c b < 18446744073709551616 := by
  unfold flip
  split
  · exact h
  · exact Nat.xor_lt_two_pow (n := 64) h (Nat.pow_lt_pow_right (by omega) (by omega))
theorem flip_flip (c : Nat) (b : Int) : flip (flip c b) b = c := by
  unfold flip
  split
  · rfl
  · rw [xor_xor]
def dist (a b : Nat) : Nat := cnt (a ^^^ b) 64
theorem dist_self (a : Nat) : dist a a = 0 := by unfold dist; rw [Nat.xor_self, cnt_zero]
theorem dist_comm (a b : Nat) : dist a b = dist b a := by unfold dist; rw [Nat.xor_comm]
theorem dist_tri (a b c : Nat) : dist a c ≤ dist a b + dist b c := cnt_tri a b c 64
theorem dist_eq {a b : Nat} (ha : a < 2 ^ 64) (hb : b < 2 ^ 64) : dist a b = 0 ↔ a = b :=
  ⟨fun h => xor_zero_iff.1 (eq_zero_of (Nat.xor_lt_two_pow ha hb) h), fun h => by rw [h]; exact dist_self b⟩
theorem dist_flip (a : Nat) {i : Nat} (h : i < 64) : dist a (a ^^^ 2 ^ i) = 1 := by
  unfold dist
  rw [← Nat.xor_assoc, Nat.xor_self, Nat.zero_xor, cnt_pow, if_pos h]
/-- The weight of what lies between two code words. -/
theorem far {a b x y : Nat} (hx : Enc a x) (hy : Enc b y) (hab : a ≠ b) : 4 ≤ dist x y := by
  have h := hx.xor hy
  have hne : a ^^^ b ≠ 0 := fun e => hab (xor_zero_iff.1 e)
  unfold dist
  have h64 : cnt (x ^^^ y) 64 = cnt (x ^^^ y) 39 := cnt_app h.lt (by omega)
  rw [h64]
  have hev := h.even
  have h0 : cnt (x ^^^ y) 39 ≠ 0 := fun e => by
    have h9 := h.dat
    rw [eq_zero_of h.lt e, dat_zero] at h9
    exact hne h9.symm
  have h2 : cnt (x ^^^ y) 39 ≠ 2 := fun e => by
    obtain ⟨i, j, hi, hj, hij, e2⟩ := two_bits h.lt e
    have h9 := h.syn
    rw [e2, syn_xor, syn_one i hi, syn_one j hj] at h9
    have h9 := xor_zero_iff.1 h9
    split at h9 <;> split at h9 <;> omega
  omega
/-- An uncorrectable code word is far from every code word. -/
theorem near {c v y : Nat} (hc : c < 2 ^ 39) (h : (dec c).2 = 2) (hy : Enc v y) : 2 ≤ dist c y := by
  have hz := Nat.xor_lt_two_pow hc hy.lt
  have h64 : dist c y = cnt (c ^^^ y) 39 := cnt_app hz (by omega)
  rw [h64]
  have h0 : cnt (c ^^^ y) 39 ≠ 0 := fun e => by
    have := xor_zero_iff.1 (eq_zero_of hz e)
    rw [this, dec_enc hy] at h
    cases h
  have h1 : cnt (c ^^^ y) 39 ≠ 1 := fun e => by
    obtain ⟨i, hi, e2⟩ := one_bit hz e
    have e3 : c = y ^^^ 2 ^ i := by rw [← e2, Nat.xor_comm c y, ← Nat.xor_assoc, Nat.xor_self, Nat.zero_xor]
    rw [e3, dec_one hy hi] at h
    cases h
  omega
end E
end Go.Proofs.YtnoohhpajoaaoaaDoor
