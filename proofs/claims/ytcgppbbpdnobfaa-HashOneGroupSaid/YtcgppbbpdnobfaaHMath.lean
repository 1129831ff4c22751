/-
  The plain mathematics of package hash: mixing over 64-bit words, words of byte lists, sums; nothing here speaks of the program.
-/
import Derived.Laws.Entries
import Derived.Laws.Bits64
import Derived.WalkKit
namespace Go.Proofs.Ytcgppbbpdnobfaa
namespace H

def mixB (s w : BitVec 64) : BitVec 64 := ((s ^^^ w) * 0xD6E8FEB86659FD93#64) ^^^ (((s ^^^ w) * 0xD6E8FEB86659FD93#64) >>> 32)

theorem unfold_shift (m : BitVec 64) : (m ^^^ m >>> 32) ^^^ (m ^^^ m >>> 32) >>> 32 = m := by
  have e : m >>> 32 >>> 32 = 0#64 := by
    apply BitVec.eq_of_toNat_eq
    have := m.isLt
    simp [Nat.shiftRight_eq_div_pow]
    omega
  rw [BitVec.ushiftRight_xor_distrib, e, BitVec.xor_zero, BitVec.xor_assoc, BitVec.xor_self, BitVec.xor_zero]

theorem mul_back (x : BitVec 64) : x * 0xD6E8FEB86659FD93#64 * 0xCFEE444D8B59A89B#64 = x := by
  rw [BitVec.mul_assoc, show (0xD6E8FEB86659FD93#64 * 0xCFEE444D8B59A89B#64 : BitVec 64) = 1#64 by decide, BitVec.mul_one]

theorem mixB_back (s w : BitVec 64) : (mixB s w ^^^ mixB s w >>> 32) * 0xCFEE444D8B59A89B#64 = s ^^^ w := by
  unfold mixB
  rw [unfold_shift, mul_back]

theorem xor_cancel (s t w : BitVec 64) (h : s ^^^ w = t ^^^ w) : s = t := by
  have := congrArg (· ^^^ w) h
  simpa [BitVec.xor_assoc] using this

theorem mixB_left {s t w : BitVec 64} : mixB s w = mixB t w ↔ s = t :=
  ⟨fun h => xor_cancel s t w (by have e := mixB_back s w; rw [h, mixB_back] at e; exact e.symm), fun h => by rw [h]⟩
theorem mixB_right {s v w : BitVec 64} : mixB s v = mixB s w ↔ v = w :=
  ⟨fun h => xor_cancel v w s (by have e := mixB_back s v; rw [h, mixB_back] at e; rw [BitVec.xor_comm v, BitVec.xor_comm w]; exact e.symm), fun h => by rw [h]⟩

/-- Mixing, on integers: each stands for its remainder modulo 2^64. -/
def mixI (a b : Int) : Int := ((mixB (BitVec.ofInt 64 a) (BitVec.ofInt 64 b)).toNat : Int)

theorem mixI_range (a b : Int) : 0 ≤ mixI a b ∧ mixI a b < 18446744073709551616 := by
  unfold mixI
  have := (mixB (BitVec.ofInt 64 a) (BitVec.ofInt 64 b)).isLt
  omega

theorem ofInt_nat (x : BitVec 64) : BitVec.ofInt 64 (x.toNat : Int) = x := by
  apply BitVec.eq_of_toNat_eq
  rw [BitVec.toNat_ofInt]
  have := x.isLt
  omega

theorem ofInt_inj {a b : Int} : BitVec.ofInt 64 a = BitVec.ofInt 64 b ↔ a % 18446744073709551616 = b % 18446744073709551616 := by
  constructor
  · intro h
    have := congrArg BitVec.toNat h
    rw [BitVec.toNat_ofInt, BitVec.toNat_ofInt] at this
    omega
  · intro h
    apply BitVec.eq_of_toNat_eq
    rw [BitVec.toNat_ofInt, BitVec.toNat_ofInt]
    omega

theorem mixI_left {a b w : Int} : mixI a w = mixI b w ↔ a % 18446744073709551616 = b % 18446744073709551616 := by
  unfold mixI
  rw [← ofInt_inj, ← mixB_left (w := BitVec.ofInt 64 w)]
  exact ⟨fun h => BitVec.eq_of_toNat_eq (by omega), fun h => by rw [h]⟩
theorem mixI_right {s a b : Int} : mixI s a = mixI s b ↔ a % 18446744073709551616 = b % 18446744073709551616 := by
  unfold mixI
  rw [← ofInt_inj, ← mixB_right (s := BitVec.ofInt 64 s)]
  exact ⟨fun h => BitVec.eq_of_toNat_eq (by omega), fun h => by rw [h]⟩

theorem mixI_wrap (a b : Int) : mixI a (IntKind.u64.wrap b) = mixI a b := by
  rw [mixI_right, IntKind.wrap_u64]
  omega
theorem mixI_congr_left {a b : Int} (w : Int) (h : a % 18446744073709551616 = b % 18446744073709551616) : mixI a w = mixI b w := mixI_left.2 h
theorem mixI_congr_right {a b : Int} (s : Int) (h : a % 18446744073709551616 = b % 18446744073709551616) : mixI s a = mixI s b := mixI_right.2 h

def foldI (s : Int) (l : List Int) : Int := l.foldl mixI s
theorem foldI_nil (s : Int) : foldI s [] = s := rfl
theorem foldI_cons (s x : Int) (l : List Int) : foldI s (x :: l) = foldI (mixI s x) l := rfl
theorem foldI_append (s : Int) (l k : List Int) : foldI s (l ++ k) = foldI (foldI s l) k := List.foldl_append ..
theorem foldI_snoc (s x : Int) (l : List Int) : foldI s (l ++ [x]) = mixI (foldI s l) x := by rw [foldI_append]; rfl
theorem foldI_range (s : Int) (l : List Int) (h : 0 ≤ s ∧ s < 18446744073709551616) : 0 ≤ foldI s l ∧ foldI s l < 18446744073709551616 := by
  induction l generalizing s with
  | nil => exact h
  | cons x l ih => exact ih _ (mixI_range _ _)
theorem foldI_left (l : List Int) : ∀ {s t : Int}, 0 ≤ s ∧ s < 18446744073709551616 → 0 ≤ t ∧ t < 18446744073709551616 → (foldI s l = foldI t l ↔ s = t) := by
  induction l with
  | nil => intro s t _ _; exact Iff.rfl
  | cons x l ih =>
    intro s t hs ht
    rw [foldI_cons, foldI_cons, ih (mixI_range _ _) (mixI_range _ _), mixI_left]
    omega

/-- Two lists whose elements agree modulo 2^64 have one fold. -/
theorem foldI_congr {l k : List Int} (h : l.map (BitVec.ofInt 64) = k.map (BitVec.ofInt 64)) (s : Int) : foldI s l = foldI s k := by
  induction l generalizing k s with
  | nil =>
    cases k with
    | nil => rfl
    | cons y k => simp at h
  | cons x l ih =>
    cases k with
    | nil => simp at h
    | cons y k =>
      simp only [List.map_cons, List.cons.injEq] at h
      have e : mixI s x = mixI s y := by unfold mixI; rw [h.1]
      rw [foldI_cons, foldI_cons, e, ih h.2]

/-- One element replaced: the fold changes just where the element does. -/
theorem foldI_set (l : List Int) (k : Nat) (hk : k < l.length) (n s : Int) :
    foldI s (l.set k n) = foldI s l ↔ n % 18446744073709551616 = l[k] % 18446744073709551616 := by
  induction l generalizing k s with
  | nil => simp at hk
  | cons x l ih =>
    cases k with
    | zero =>
      rw [List.set_cons_zero, foldI_cons, foldI_cons, foldI_left l (mixI_range _ _) (mixI_range _ _), mixI_right]
      rfl
    | succ k =>
      rw [List.set_cons_succ, foldI_cons, foldI_cons]
      exact ih k (by simpa using hk) _

/-! ### words of a list of bytes -/

/-- The number of a group of bytes, the least significant byte first. -/
def le8 : List Int → Int
  | [] => 0
  | b :: r => b + 256 * le8 r
def grp (bs : List Int) (k : Nat) : List Int := (bs.drop (8 * k)).take 8
def nw (n : Nat) : Nat := (n + 7) / 8
def words (bs : List Int) : List Int := (List.range (nw bs.length)).map fun k => le8 (grp bs k)
def upto (bs : List Int) (k : Nat) : List Int := (List.range k).map fun k => le8 (grp bs k)
theorem upto_succ (bs : List Int) (k : Nat) : upto bs (k + 1) = upto bs k ++ [le8 (grp bs k)] := by simp [upto, List.range_succ]
theorem upto_length (bs : List Int) (k : Nat) : (upto bs k).length = k := by simp [upto]
theorem upto_all (bs : List Int) : upto bs (nw bs.length) = words bs := rfl
theorem words_length (bs : List Int) : (words bs).length = nw bs.length := by simp [words]

def Byt (bs : List Int) : Prop := ∀ b ∈ bs, 0 ≤ b ∧ b < 256

theorem le8_range : ∀ {g : List Int}, Byt g → 0 ≤ le8 g ∧ le8 g < 256 ^ g.length
  | [], _ => by simp [le8]
  | b :: r, h => by
    have hb := h b (by simp)
    have hr := le8_range (g := r) (fun x hx => h x (by simp [hx]))
    rw [le8, List.length_cons, Int.pow_succ]
    omega
theorem le8_snoc (g : List Int) (b : Int) : le8 (g ++ [b]) = le8 g + b * 256 ^ g.length := by
  induction g with
  | nil => simp [le8]
  | cons x g ih =>
    rw [List.cons_append, le8, ih, le8, List.length_cons, Int.pow_succ, Int.mul_add, Int.add_assoc]
    congr 2
    rw [Int.mul_comm 256, Int.mul_assoc]
theorem le8_inj : ∀ {g h : List Int}, Byt g → Byt h → g.length = h.length → le8 g = le8 h → g = h
  | [], [], _, _, _, _ => rfl
  | [], _ :: _, _, _, e, _ => by simp at e
  | _ :: _, [], _, _, e, _ => by simp at e
  | a :: g, b :: h, hg, hh, e, he => by
    have ha := hg a (by simp)
    have hb := hh b (by simp)
    rw [le8, le8] at he
    have e1 : a = b := by omega
    have e2 : le8 g = le8 h := by omega
    rw [e1, le8_inj (fun x hx => hg x (by simp [hx])) (fun x hx => hh x (by simp [hx])) (by simpa using e) e2]
theorem grp_byt {bs : List Int} (h : Byt bs) (k : Nat) : Byt (grp bs k) := fun b hb => h b (List.mem_of_mem_drop (List.mem_of_mem_take hb))
theorem grp_length (bs : List Int) (k : Nat) : (grp bs k).length = min 8 (bs.length - 8 * k) := by simp [grp]
theorem grp_range {bs : List Int} (h : Byt bs) (k : Nat) : 0 ≤ le8 (grp bs k) ∧ le8 (grp bs k) < 18446744073709551616 := by
  have r := le8_range (grp_byt h k)
  have hl : (grp bs k).length ≤ 8 := by rw [grp_length]; omega
  have hp : (256 : Int) ^ (grp bs k).length ≤ 256 ^ 8 := by
    have := Nat.pow_le_pow_right (n := 256) (by omega) hl
    have e : ((256 ^ (grp bs k).length : Nat) : Int) ≤ ((256 ^ 8 : Nat) : Int) := by omega
    simpa using e
  have : (256 : Int) ^ 8 = 18446744073709551616 := by decide
  omega

/-- One byte more, by the bitwise or. -/
theorem or_form {g : List Int} (hg : Byt g) (c : Nat) (hc : c < 256) (hk : g.length < 8) :
    bits BinOp.or IntKind.u64 (le8 g) (IntKind.u64.wrap (IntKind.u64.wrap (c : Int) * 2 ^ (8 * g.length))) = le8 (g ++ [(c : Int)]) := by
  obtain ⟨h0, h1⟩ := le8_range hg
  obtain ⟨n, hn⟩ := Int.eq_ofNat_of_zero_le h0
  have hp : (256 : Nat) ^ g.length = 2 ^ (8 * g.length) := by rw [Nat.pow_mul]
  have hn2 : n < 2 ^ (8 * g.length) := by
    rw [← hp]
    have : (n : Int) < ((256 ^ g.length : Nat) : Int) := by rw [hn] at h1; simpa using h1
    omega
  have hb : c * 2 ^ (8 * g.length) < 2 ^ 64 := by
    have e : (2 : Nat) ^ 64 = 2 ^ 8 * 2 ^ 56 := by decide
    have l : (2 : Nat) ^ (8 * g.length) ≤ 2 ^ 56 := Nat.pow_le_pow_right (by omega) (by omega)
    rw [e]
    exact Nat.lt_of_lt_of_le (Nat.mul_lt_mul_of_pos_right (by omega) (Nat.two_pow_pos _)) (Nat.mul_le_mul_left _ l)
  have hn3 : n < 2 ^ 64 := Nat.lt_of_lt_of_le hn2 (Nat.pow_le_pow_right (by omega) (by omega))
  have e1 : (c : Int) % 18446744073709551616 = (c : Int) := by omega
  have e2 : (c : Int) * 2 ^ (8 * g.length) = ((c * 2 ^ (8 * g.length) : Nat) : Int) := by simp
  have e3 : ((c * 2 ^ (8 * g.length) : Nat) : Int) % 18446744073709551616 = ((c * 2 ^ (8 * g.length) : Nat) : Int) := by omega
  rw [le8_snoc, hn, IntKind.wrap_u64, IntKind.wrap_u64, e1, e2, e3]
  have e4 : ((2 : Nat) ^ 64) = 18446744073709551616 := by decide
  have := bits_or_u64_nat n (c * 2 ^ (8 * g.length)) (by omega) (by omega)
  refine this.trans ?_
  have e5 := Nat.shiftLeft_add_eq_or_of_lt hn2 c
  rw [Nat.shiftLeft_eq] at e5
  rw [Nat.or_comm, ← e5, Nat.add_comm]
  have e6 : (256 : Int) ^ g.length = ((2 ^ (8 * g.length) : Nat) : Int) := by rw [← hp]; simp
  rw [e6]
  simp

/-- The sum of a label's bytes and of numbers. -/
def sumI (lab l : List Int) : Int := foldI (mixI (mixI (foldI 0 (words lab)) lab.length) l.length) l
theorem sumI_range (lab l : List Int) : 0 ≤ sumI lab l ∧ sumI lab l < 18446744073709551616 := foldI_range _ _ (mixI_range _ _)
theorem sumI_congr (lab : List Int) {l k : List Int} (h : l.map (BitVec.ofInt 64) = k.map (BitVec.ofInt 64)) : sumI lab l = sumI lab k := by
  have hl : l.length = k.length := by simpa using congrArg List.length h
  unfold sumI
  rw [hl]
  exact foldI_congr h _

end H
end Go.Proofs.Ytcgppbbpdnobfaa
