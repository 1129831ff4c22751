/-
  The plain mathematics of package crc: the register as a natural number, its steps, what is fed; linearity, bursts, two bits; nothing here speaks of the program.
-/
import Derived.Laws.BitsAllLaws
import Derived.WalkKit
namespace Go.Proofs.YtpkhbglmbdpodaaDoor
namespace C

def poly : Nat := 3988292384
/-- One step of the register. -/
def st1 (r : Nat) : Nat := if r % 2 = 1 then (r / 2) ^^^ poly else r / 2
def st : Nat → Nat → Nat
  | 0, r => r
  | n + 1, r => st n (st1 r)
theorem st_add (m n r : Nat) : st (m + n) r = st n (st m r) := by
  induction m generalizing r with
  | zero => rw [Nat.zero_add]; rfl
  | succ m ih => rw [Nat.succ_add]; exact ih (st1 r)
theorem st_succ (n r : Nat) : st (n + 1) r = st1 (st n r) := by
  rw [st_add n 1]; rfl

theorem xor_mod2 (a b : Nat) : (a ^^^ b) % 2 = (a % 2 + b % 2) % 2 := by
  have h := Nat.xor_mod_two_pow (a := a) (b := b) (n := 1)
  rw [Nat.pow_one] at h
  rw [h]
  have ha : a % 2 = 0 ∨ a % 2 = 1 := by omega
  have hb : b % 2 = 0 ∨ b % 2 = 1 := by omega
  rcases ha with ha | ha <;> rcases hb with hb | hb <;> rw [ha, hb] <;> rfl
theorem xor_div2 (a b : Nat) : (a ^^^ b) / 2 = (a / 2) ^^^ (b / 2) := by
  have h := Nat.shiftRight_xor_distrib (a := a) (b := b) (i := 1)
  simpa [Nat.shiftRight_eq_div_pow] using h
theorem xor_aa (a b : Nat) : (a ^^^ b) ^^^ b = a := by rw [Nat.xor_assoc, Nat.xor_self, Nat.xor_zero]
theorem xor4 (a b c d : Nat) : (a ^^^ b) ^^^ (c ^^^ d) = (a ^^^ c) ^^^ (b ^^^ d) := by
  rw [Nat.xor_assoc, Nat.xor_assoc, ← Nat.xor_assoc b, Nat.xor_comm b c, Nat.xor_assoc]
theorem xor_inj {a b c : Nat} (h : a ^^^ c = b ^^^ c) : a = b := by
  have := congrArg (· ^^^ c) h
  simpa only [xor_aa] using this
theorem xor_eq0 {a b : Nat} (h : a ^^^ b = 0) : a = b := by
  have : a ^^^ b = b ^^^ b := by rw [h, Nat.xor_self]
  exact xor_inj this

theorem st1_xor (a b : Nat) : st1 (a ^^^ b) = st1 a ^^^ st1 b := by
  unfold st1
  have h := xor_mod2 a b
  rw [xor_div2]
  have ha : a % 2 = 0 ∨ a % 2 = 1 := by omega
  have hb : b % 2 = 0 ∨ b % 2 = 1 := by omega
  rcases ha with ha | ha <;> rcases hb with hb | hb
  · rw [if_neg (by omega), if_neg (by omega), if_neg (by omega)]
  · rw [if_pos (by omega), if_neg (by omega), if_pos (by omega), Nat.xor_assoc]
  · rw [if_pos (by omega), if_pos (by omega), if_neg (by omega), Nat.xor_assoc, Nat.xor_assoc, Nat.xor_comm (b / 2)]
  · rw [if_neg (by omega), if_pos (by omega), if_pos (by omega), xor4, Nat.xor_self, Nat.xor_zero]
theorem st_xor (n a b : Nat) : st n (a ^^^ b) = st n a ^^^ st n b := by
  induction n generalizing a b with
  | zero => rfl
  | succ n ih => show st n (st1 (a ^^^ b)) = st n (st1 a) ^^^ st n (st1 b); rw [st1_xor, ih]
theorem st1_zero : st1 0 = 0 := rfl
theorem st_zero (n : Nat) : st n 0 = 0 := by
  induction n with
  | zero => rfl
  | succ n ih => exact ih

theorem lt_xor {n a b : Nat} (ha : a < 2 ^ n) (hb : b < 2 ^ n) : a ^^^ b < 2 ^ n := Nat.xor_lt_two_pow ha hb
theorem st1_lt {r : Nat} (h : r < 4294967296) : st1 r < 4294967296 := by
  unfold st1
  split
  · exact lt_xor (n := 32) (by omega) (by decide)
  · omega
theorem st_lt {r : Nat} (h : r < 4294967296) (n : Nat) : st n r < 4294967296 := by
  induction n generalizing r with
  | zero => exact h
  | succ n ih => exact ih (st1_lt h)
theorem st1_eq0 {r : Nat} (h : r < 4294967296) (h0 : st1 r = 0) : r = 0 := by
  unfold st1 at h0
  split at h0
  · have h1 := xor_eq0 h0
    unfold poly at h1
    omega
  · omega
theorem st_eq0 {r : Nat} (h : r < 4294967296) (n : Nat) (h0 : st n r = 0) : r = 0 := by
  induction n generalizing r with
  | zero => exact h0
  | succ n ih => exact st1_eq0 h (ih (st1_lt h) h0)
theorem st_inj {a b : Nat} (ha : a < 4294967296) (hb : b < 4294967296) (n : Nat) (h : st n a = st n b) : a = b :=
  xor_eq0 (st_eq0 (lt_xor (n := 32) ha hb) n (by rw [st_xor, h, Nat.xor_self]))

/-- A byte is fed. -/
def feed (r c : Nat) : Nat := st 8 (r ^^^ c)
def reg (r : Nat) (bs : List Nat) : Nat := bs.foldl feed r
theorem reg_nil (r : Nat) : reg r [] = r := rfl
theorem reg_cons (r c : Nat) (bs : List Nat) : reg r (c :: bs) = reg (feed r c) bs := rfl
theorem reg_append (r : Nat) (as bs : List Nat) : reg r (as ++ bs) = reg (reg r as) bs := List.foldl_append ..
theorem reg_snoc (r c : Nat) (bs : List Nat) : reg r (bs ++ [c]) = feed (reg r bs) c := by rw [reg_append]; rfl
theorem feed_lt {r c : Nat} (hr : r < 4294967296) (hc : c < 4294967296) : feed r c < 4294967296 := st_lt (lt_xor (n := 32) hr hc) 8
theorem reg_lt {r : Nat} (hr : r < 4294967296) {bs : List Nat} (hb : ∀ b ∈ bs, b < 256) : reg r bs < 4294967296 := by
  induction bs generalizing r with
  | nil => exact hr
  | cons c bs ih => exact ih (feed_lt hr (by have := hb c (by simp); omega)) (fun b h => hb b (by simp [h]))
theorem feed_xor (r s c d : Nat) : feed (r ^^^ s) (c ^^^ d) = feed r c ^^^ feed s d := by
  unfold feed
  rw [xor4, st_xor]

/-- Bytewise XOR of two lists. -/
def xors : List Nat → List Nat → List Nat := List.zipWith (· ^^^ ·)
theorem reg_xors : ∀ (as bs : List Nat) (r s : Nat), as.length = bs.length → reg (r ^^^ s) (xors as bs) = reg r as ^^^ reg s bs
  | [], [], _, _, _ => rfl
  | a :: as, b :: bs, r, s, h => by
    show reg (feed (r ^^^ s) (a ^^^ b)) (xors as bs) = _
    rw [feed_xor]
    exact reg_xors as bs _ _ (by simpa using h)

/-- Zero bytes. -/
def zeros (n : Nat) : List Nat := List.replicate n 0
theorem reg_zeros (n r : Nat) : reg r (zeros n) = st (8 * n) r := by
  induction n generalizing r with
  | zero => rfl
  | succ n ih =>
    show reg (feed r 0) (zeros n) = _
    rw [ih, show 8 * (n + 1) = 8 + 8 * n from by omega, st_add]
    unfold feed
    rw [Nat.xor_zero]
theorem reg_zeros0 (n : Nat) : reg 0 (zeros n) = 0 := by rw [reg_zeros, st_zero]

def ones : Nat := 4294967295
/-- The checksum after the checksum s. -/
def upd (s : Nat) (bs : List Nat) : Nat := ones - reg (ones - s) bs
def sum (bs : List Nat) : Nat := upd 0 bs
def comb (a b n : Nat) : Nat := st (8 * n) a ^^^ b
theorem not_xor {r : Nat} (h : r < 4294967296) : ones - r = ones ^^^ r := by
  have h2 : 2 ^ 32 - (r + 1) = ones - r := by unfold ones; omega
  have h3 : (2 ^ 32 - 1 : Nat) = ones := rfl
  rw [← h2]
  apply Nat.eq_of_testBit_eq
  intro i
  rw [Nat.testBit_two_pow_sub_succ h, Nat.testBit_xor, ← h3, Nat.testBit_two_pow_sub_one]
  by_cases hi : i < 32
  · simp [hi]
  · have : r.testBit i = false := Nat.testBit_lt_two_pow (Nat.lt_of_lt_of_le h (Nat.pow_le_pow_right (n := 2) (by decide) (show 32 ≤ i by omega)))
    simp [hi, this]
theorem st1_even (z : Nat) : st1 (2 * z) = z := by unfold st1; rw [if_neg (by omega)]; omega
theorem st_shift (n z : Nat) : st n (2 ^ n * z) = z := by
  induction n generalizing z with
  | zero => show 2 ^ 0 * z = z; omega
  | succ n ih =>
    show st n (st1 (2 ^ (n + 1) * z)) = z
    rw [Nat.pow_succ, show 2 ^ n * 2 * z = 2 * (2 ^ n * z) from by rw [Nat.mul_comm (2 ^ n) 2, Nat.mul_assoc], st1_even, ih]
theorem split_xor (n d : Nat) : (d % 2 ^ n) ^^^ (2 ^ n * (d / 2 ^ n)) = d := by
  have hp : (0 : Nat) < 2 ^ n := Nat.two_pow_pos n
  have h1 : ((d % 2 ^ n) ^^^ (2 ^ n * (d / 2 ^ n))) % 2 ^ n = d % 2 ^ n := by
    rw [Nat.xor_mod_two_pow, Nat.mul_mod_right, Nat.xor_zero, Nat.mod_mod]
  have h2 : ((d % 2 ^ n) ^^^ (2 ^ n * (d / 2 ^ n))) / 2 ^ n = d / 2 ^ n := by
    have h := Nat.shiftRight_xor_distrib (a := d % 2 ^ n) (b := 2 ^ n * (d / 2 ^ n)) (i := n)
    simp only [Nat.shiftRight_eq_div_pow] at h
    rw [h, Nat.div_eq_of_lt (Nat.mod_lt _ hp), Nat.zero_xor, Nat.mul_div_cancel_left _ hp]
  rw [← Nat.div_add_mod ((d % 2 ^ n) ^^^ (2 ^ n * (d / 2 ^ n))) (2 ^ n), h1, h2]
  exact Nat.div_add_mod d (2 ^ n)
theorem st8_low (r d : Nat) : st 8 (r ^^^ d) = feed r (d % 256) ^^^ (d / 256) := by
  have h := split_xor 8 d
  have e : (2 : Nat) ^ 8 = 256 := rfl
  have h8 := st_shift 8 (d / 256)
  rw [e] at h h8
  conv => lhs; rw [← h]
  rw [← Nat.xor_assoc, st_xor, h8]
  rfl

/-- The n lowest digits of d to the base 256. -/
def digits : Nat → Nat → List Nat
  | 0, _ => []
  | n + 1, d => d % 256 :: digits n (d / 256)
theorem digits_len : ∀ n d, (digits n d).length = n
  | 0, _ => rfl
  | n + 1, d => by show (digits n (d / 256)).length + 1 = n + 1; rw [digits_len]
theorem digits_byt : ∀ n d, ∀ b ∈ digits n d, b < 256
  | 0, _, b, h => by cases h
  | n + 1, d, b, h => by
    rcases List.mem_cons.1 h with rfl | h
    · omega
    · exact digits_byt n _ b h
theorem reg_digits : ∀ n r d, reg r (digits n d) ^^^ (d / 256 ^ n) = st (8 * n) (r ^^^ d)
  | 0, r, d => by show r ^^^ (d / 1) = r ^^^ d; rw [Nat.div_one]
  | n + 1, r, d => by
    show reg (feed r (d % 256)) (digits n (d / 256)) ^^^ (d / 256 ^ (n + 1)) = _
    rw [Nat.pow_succ, Nat.mul_comm (256 ^ n), ← Nat.div_div_eq_div_mul, reg_digits n, ← st8_low, ← st_add, show 8 + 8 * n = 8 * (n + 1) from by omega]
theorem reg_digits' {n r d : Nat} (h : d < 256 ^ n) : reg r (digits n d) = st (8 * n) (r ^^^ d) := by
  rw [← reg_digits, Nat.div_eq_of_lt h, Nat.xor_zero]
theorem xor_mod256 (a b : Nat) : (a ^^^ b) % 256 = (a % 256) ^^^ (b % 256) := Nat.xor_mod_two_pow (n := 8)
theorem xor_div256 (a b : Nat) : (a ^^^ b) / 256 = (a / 256) ^^^ (b / 256) := by
  have h := Nat.shiftRight_xor_distrib (a := a) (b := b) (i := 8)
  simpa [Nat.shiftRight_eq_div_pow] using h
theorem xors_digits : ∀ n a b, xors (digits n a) (digits n b) = digits n (a ^^^ b)
  | 0, _, _ => rfl
  | n + 1, a, b => by
    show (a % 256 ^^^ b % 256) :: xors (digits n (a / 256)) (digits n (b / 256)) = (a ^^^ b) % 256 :: digits n ((a ^^^ b) / 256)
    rw [xors_digits n, xor_mod256, xor_div256]
theorem xors_len {as bs : List Nat} (h : as.length = bs.length) : (xors as bs).length = as.length := by
  unfold xors
  rw [List.length_zipWith, h, Nat.min_self]
theorem xors_assoc : ∀ (as bs cs : List Nat), xors (xors as bs) cs = xors as (xors bs cs)
  | [], _, _ => by simp [xors]
  | _ :: _, [], _ => by simp [xors]
  | _ :: _, _ :: _, [] => by simp [xors]
  | a :: as, b :: bs, c :: cs => by
    show (a ^^^ b ^^^ c) :: xors (xors as bs) cs = (a ^^^ (b ^^^ c)) :: xors as (xors bs cs)
    rw [xors_assoc as bs cs, Nat.xor_assoc]
theorem digits_zero : ∀ n, digits n 0 = zeros n
  | 0 => rfl
  | n + 1 => by show 0 :: digits n 0 = _; rw [digits_zero n]; rfl
theorem xors_zeros : ∀ (s : List Nat), xors s (zeros s.length) = s
  | [] => rfl
  | a :: s => by
    show (a ^^^ 0) :: xors s (zeros s.length) = _
    rw [xors_zeros s, Nat.xor_zero]

/-- A bit is inverted. -/
def flipL (s : List Nat) (p : Nat) : List Nat := s.set (p / 8) (s[p / 8]?.getD 0 ^^^ 2 ^ (p % 8))
theorem flip_eq : ∀ (s : List Nat) (p : Nat), p < 8 * s.length → flipL s p = xors s (digits s.length (2 ^ p))
  | [], p, h => by simp at h
  | a :: s, p, h => by
    by_cases hp : p < 8
    · have h0 : p / 8 = 0 := by omega
      have h1 : p % 8 = p := by omega
      have hlt : 2 ^ p < 256 := Nat.pow_lt_pow_right (by decide) hp (m := p) (n := 8)
      unfold flipL
      rw [h0, h1]
      show (a ^^^ 2 ^ p) :: s = (a ^^^ (2 ^ p % 256)) :: xors s (digits s.length (2 ^ p / 256))
      rw [Nat.mod_eq_of_lt hlt, Nat.div_eq_of_lt hlt, digits_zero, xors_zeros]
    · obtain ⟨q, rfl⟩ : ∃ q, p = q + 8 := ⟨p - 8, by omega⟩
      have h0 : (q + 8) / 8 = q / 8 + 1 := by omega
      have h1 : (q + 8) % 8 = q % 8 := by omega
      have e : (2 : Nat) ^ (q + 8) = 256 * 2 ^ q := by rw [Nat.pow_add, Nat.mul_comm]
      have ih := flip_eq s q (by simp only [List.length_cons] at h; omega)
      unfold flipL at ih ⊢
      rw [h0, h1, e]
      show a :: s.set (q / 8) (s[q / 8]?.getD 0 ^^^ 2 ^ (q % 8)) = (a ^^^ (256 * 2 ^ q % 256)) :: xors s (digits s.length (256 * 2 ^ q / 256))
      rw [ih, Nat.mul_mod_right, Nat.mul_div_cancel_left _ (by decide), Nat.xor_zero]

/-- The four bytes of a checksum. -/
def le4 (d : Nat) : List Nat := digits 4 d
theorem reg_le4 {r d : Nat} (h : d < 4294967296) : reg r (le4 d) = st 32 (r ^^^ d) := reg_digits' h
def sealed (bs : List Nat) : List Nat := bs ++ le4 (sum bs)
theorem ones_lt : ones < 4294967296 := by decide
theorem sum_def (bs : List Nat) : sum bs = ones - reg ones bs := rfl
theorem sum_lt (bs : List Nat) : sum bs < 4294967296 := by rw [sum_def]; unfold ones; omega
theorem sum_xor {bs : List Nat} (hb : ∀ b ∈ bs, b < 256) : sum bs = ones ^^^ reg ones bs := by rw [sum_def, not_xor (reg_lt ones_lt hb)]
theorem reg_seal {bs : List Nat} (hb : ∀ b ∈ bs, b < 256) : reg ones (sealed bs) = st 32 ones := by
  unfold sealed
  rw [reg_append, reg_le4 (sum_lt bs), sum_xor hb, Nat.xor_comm, xor_aa]
theorem digits_inj : ∀ (n a b : Nat), a < 256 ^ n → b < 256 ^ n → digits n a = digits n b → a = b
  | 0, a, b, ha, hb, _ => by simp only [Nat.pow_zero] at ha hb; omega
  | n + 1, a, b, ha, hb, h => by
    have h1 : a % 256 :: digits n (a / 256) = b % 256 :: digits n (b / 256) := h
    injection h1 with h1 h2
    rw [Nat.pow_succ, Nat.mul_comm] at ha hb
    have := digits_inj n _ _ (Nat.div_lt_of_lt_mul ha) (Nat.div_lt_of_lt_mul hb) h2
    omega
theorem digits_of : ∀ (y : List Nat), (∀ b ∈ y, b < 256) → ∃ d, d < 256 ^ y.length ∧ digits y.length d = y
  | [], _ => ⟨0, by decide, rfl⟩
  | c :: y, h => by
    obtain ⟨d, h1, h2⟩ := digits_of y (fun b hb => h b (by simp [hb]))
    have hc := h c (by simp)
    refine ⟨c + 256 * d, by rw [List.length_cons, Nat.pow_succ]; omega, ?_⟩
    show (c + 256 * d) % 256 :: digits y.length ((c + 256 * d) / 256) = _
    rw [show (c + 256 * d) % 256 = c from by omega, show (c + 256 * d) / 256 = d from by omega, h2]
/-- A slice is sealed exactly if it leads the register there. -/
theorem sealed_iff {x y : List Nat} (hx : ∀ b ∈ x, b < 256) (hy : ∀ b ∈ y, b < 256) (h4 : y.length = 4) : y = le4 (sum x) ↔ reg ones (x ++ y) = st 32 ones := by
  constructor
  · rintro rfl
    exact reg_seal hx
  · intro h
    obtain ⟨d, h1, h2⟩ := digits_of y hy
    rw [h4] at h1 h2
    rw [← h2, reg_append, reg_digits' h1] at h
    have hr := reg_lt ones_lt hx
    have h3 := st_inj (lt_xor (n := 32) hr h1) ones_lt 32 h
    have h5 := congrArg (· ^^^ reg ones x) h3
    simp only [Nat.xor_comm (reg ones x) d, xor_aa] at h5
    rw [← h2, le4, sum_xor hx, ← h5]
theorem residue_val : ones - st 32 ones = 558161692 := by decide +kernel

/-- What a change of a slice does to the register. -/
theorem reg_change (s : List Nat) (e : Nat) (h : e < 256 ^ s.length) : reg ones (xors s (digits s.length e)) = reg ones s ^^^ st (8 * s.length) e := by
  have h1 := reg_xors s (digits s.length e) ones 0 (digits_len _ _).symm
  rw [Nat.xor_zero, reg_digits' h, Nat.zero_xor] at h1
  exact h1
/-- A burst: p, of at most 32 bits, shifted by 'first' bits. -/
theorem burst_ne {p first n : Nat} (hp : p < 4294967296) (h0 : p ≠ 0) (hf : first ≤ n) : st n (2 ^ first * p) ≠ 0 := by
  obtain ⟨m, rfl⟩ : ∃ m, n = first + m := ⟨n - first, by omega⟩
  rw [st_add, st_shift]
  exact fun h => h0 (st_eq0 hp m h)
theorem pow256 (n : Nat) : (256 : Nat) ^ n = 2 ^ (8 * n) := by rw [Nat.pow_mul]
def wide : Nat → Nat → Bool
  | 0, _ => true
  | n + 1, r => (r != 1) && wide n (st1 r)
theorem wide_st : ∀ (n r : Nat), wide n r = true → ∀ d, d < n → st d r ≠ 1
  | 0, _, _, d, h => by omega
  | n + 1, r, h, d, hd => by
    simp only [wide, Bool.and_eq_true, bne_iff_ne] at h
    rcases d with _ | d
    · exact h.1
    · exact wide_st n (st1 r) h.2 d (by omega)
set_option maxRecDepth 100000 in
theorem wide_all : wide 8200 (st1 1) = true := by decide +kernel
theorem two_ne {i k n : Nat} (hik : i < k) (hk : k < n) (hd : k - i < 8200) : st n (2 ^ i ^^^ 2 ^ k) ≠ 0 := by
  obtain ⟨d, rfl⟩ : ∃ d, k = i + (d + 1) := ⟨k - i - 1, by omega⟩
  obtain ⟨m, rfl⟩ : ∃ m, n = (i + (d + 1)) + m := ⟨n - (i + (d + 1)), by omega⟩
  rw [st_add, st_xor, st_add i (d + 1), st_add i (d + 1)]
  have e1 := st_shift i 1
  have e2 := st_shift i (2 ^ (d + 1))
  have e3 := st_shift (d + 1) 1
  rw [Nat.mul_one] at e1 e3
  rw [e1, Nat.pow_add, e2, e3]
  intro h
  have h1 := st_eq0 (lt_xor (n := 32) (st_lt (by decide) _) (by decide)) m h
  exact wide_st 8200 (st1 1) wide_all d (by omega) (xor_eq0 h1)
/-- Linearity of the checksum. -/
theorem sum_three {a b c : List Nat} (hab : a.length = b.length) (hbc : b.length = c.length) (ha : ∀ x ∈ a, x < 256) (hb : ∀ x ∈ b, x < 256) (hc : ∀ x ∈ c, x < 256) (hx : ∀ x ∈ xors (xors a b) c, x < 256) : sum (xors (xors a b) c) = (sum a ^^^ sum b) ^^^ sum c := by
  rw [sum_xor hx, sum_xor ha, sum_xor hb, sum_xor hc]
  have h1 := reg_xors a b ones ones hab
  have h2 := reg_xors (xors a b) c (ones ^^^ ones) ones (by rw [xors_len hab, hab, hbc])
  rw [h1, Nat.xor_self, Nat.zero_xor] at h2
  rw [h2]
  generalize reg ones a = A
  generalize reg ones b = B
  generalize reg ones c = C
  rw [xor4 ones A ones B, Nat.xor_self, Nat.zero_xor, ← Nat.xor_assoc (A ^^^ B) ones C, Nat.xor_comm (A ^^^ B) ones, Nat.xor_assoc ones (A ^^^ B) C]
theorem comb_eq (a b : List Nat) (ha : ∀ x ∈ a, x < 256) (hb : ∀ x ∈ b, x < 256) : sum (a ++ b) = comb (sum a) (sum b) b.length := by
  have hab : ∀ x ∈ a ++ b, x < 256 := fun x hx => by rcases List.mem_append.1 hx with h | h; exact ha x h; exact hb x h
  have h := reg_xors b (zeros b.length) ones (ones ^^^ reg ones a) (by simp [zeros])
  rw [xors_zeros, ← Nat.xor_assoc, Nat.xor_self, Nat.zero_xor, reg_zeros] at h
  unfold comb
  rw [sum_xor hab, sum_xor ha, sum_xor hb, reg_append, h]
  rw [← Nat.xor_assoc, Nat.xor_comm]
theorem comb_lt {a b : Nat} (ha : a < 4294967296) (hb : b < 4294967296) (n : Nat) : comb a b n < 4294967296 := lt_xor (n := 32) (st_lt ha _) hb
theorem comb_two (a b m n : Nat) : comb (comb a 0 m) b n = comb a b (m + n) := by
  unfold comb
  rw [Nat.xor_zero, ← st_add, show 8 * m + 8 * n = 8 * (m + n) from by omega]
theorem comb_xor (a b n : Nat) : comb a b n ^^^ b = comb a 0 n := by
  unfold comb
  rw [xor_aa, Nat.xor_zero]
theorem comb_zero (b n : Nat) : comb 0 b n = b := by
  unfold comb
  rw [st_zero, Nat.zero_xor]
theorem comb_assoc (a b c m n : Nat) : comb (comb a b m) c n = comb a (comb b c n) (m + n) := by
  unfold comb
  rw [st_xor, ← st_add, show 8 * m + 8 * n = 8 * (m + n) from by omega, Nat.xor_assoc]
theorem comb_nil (a : Nat) : comb a 0 0 = a := by
  unfold comb
  rw [Nat.xor_zero]
  rfl
theorem upd_sum (x y : List Nat) (hx : ∀ b ∈ x, b < 256) : upd (sum x) y = sum (x ++ y) := by
  rw [sum_def (x ++ y), reg_append]
  unfold upd
  rw [sum_def]
  have h := reg_lt ones_lt hx
  rw [show ones - (ones - reg ones x) = reg ones x from by unfold ones at *; omega]
theorem upd_nil {a : Nat} (h : a < 4294967296) : upd a [] = a := by
  unfold upd
  show ones - (ones - a) = a
  unfold ones
  omega
end C
end Go.Proofs.YtpkhbglmbdpodaaDoor
