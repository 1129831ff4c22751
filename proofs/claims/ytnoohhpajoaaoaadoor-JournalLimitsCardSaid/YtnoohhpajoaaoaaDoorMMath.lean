/-
  Memories as plain data: words, the scrub position, the count of writes, the fuse and the power; what each operation does.
-/
import Derived.Test.YtnoohhpajoaaoaaDoorECode
namespace Go.Proofs.YtnoohhpajoaaoaaDoor
namespace M
set_option linter.unusedVariables false
structure Mem where
  code : List Nat
  next : Nat
  count : Nat
  left : Nat
  off : Bool
/-- The code word of word a. -/
def Mem.at (m : Mem) (a : Nat) : Nat := m.code[a]?.getD 0
def Mem.len (m : Mem) : Nat := m.code.length
structure Mem.ok (m : Mem) : Prop where
  pos : 0 < m.code.length
  most : m.code.length ≤ 4096
  next : m.next < m.code.length
  small : ∀ a, m.at a < 2 ^ 39
  left : m.left ≤ 9223372036854775807
/-- Is there a word a? -/
def Mem.has (m : Mem) (a : Int) : Bool := decide (0 ≤ a ∧ a < (m.code.length : Int))
theorem Mem.has_nat {m : Mem} {a : Int} (h : m.has a = true) : ∃ k : Nat, a = k ∧ k < m.code.length := by
  have := of_decide_eq_true h
  exact ⟨a.toNat, by omega, by omega⟩
def Mem.new (n : Nat) : Mem := ⟨List.replicate n 0, 0, 0, 0, false⟩
def Mem.readR (m : Mem) (a : Int) : Nat × Int :=
  if m.has a = true then (if (E.dec (m.at a.toNat)).2 = 2 then (0, 20) else ((E.dec (m.at a.toNat)).1, 0)) else (0, 5)
def Mem.write (m : Mem) (a : Int) (w : Nat) : Mem :=
  if m.has a = true ∧ m.off = false then { m with code := m.code.set a.toNat (E.enc w), count := m.count + 1, left := m.left - 1, off := decide (m.left = 1) } else m
def Mem.writeE (m : Mem) (a : Int) : Int := if m.has a = true then (if m.off = true then 21 else 0) else 5
def Mem.fuse (m : Mem) (n : Int) : Mem := if m.off = true then m else { m with left := n.toNat, off := decide (n = 0) }
def Mem.reset (m : Mem) : Mem := { m with left := 0, off := false }
def bitIn (bit : Int) : Bool := decide (0 ≤ bit ∧ bit ≤ 38)
def Mem.flip (m : Mem) (a bit : Int) : Mem :=
  if m.has a = true ∧ bitIn bit = true then { m with code := m.code.set a.toNat (m.at a.toNat ^^^ 2 ^ bit.toNat) } else m
def Mem.flipE (m : Mem) (a bit : Int) : Int := if m.has a = true ∧ bitIn bit = true then 0 else 5
/-- One visit of the scrubber. -/
def Mem.visit (m : Mem) : Mem :=
  { m with code := if (E.dec (m.at m.next)).2 = 1 then m.code.set m.next (E.enc (E.dec (m.at m.next)).1) else m.code, next := (m.next + 1) % m.code.length }
def Mem.visits (m : Mem) : Nat → Mem
  | 0 => m
  | k + 1 => (m.visits k).visit
/-- How many of k visits correct a word, or find an uncorrectable one (status s). -/
def Mem.found (m : Mem) (s : Nat) : Nat → Nat
  | 0 => 0
  | k + 1 => m.found s k + (if (E.dec ((m.visits k).at (m.visits k).next)).2 = s then 1 else 0)
/-- How many words a scrub of n words visits. -/
def Mem.turns (m : Mem) (n : Int) : Nat := if m.off = true then 0 else min n.toNat m.code.length
def Mem.scrub (m : Mem) (n : Int) : Mem := m.visits (m.turns n)
/-! ### What stays -/
theorem visit_len (m : Mem) : m.visit.code.length = m.code.length := by
  unfold Mem.visit
  split <;> simp
theorem visits_len (m : Mem) : ∀ k, (m.visits k).code.length = m.code.length
  | 0 => rfl
  | k + 1 => by rw [Mem.visits, visit_len, visits_len m k]
theorem visits_off (m : Mem) : ∀ k, (m.visits k).off = m.off
  | 0 => rfl
  | k + 1 => by rw [Mem.visits]; exact visits_off m k
theorem visits_count (m : Mem) : ∀ k, (m.visits k).count = m.count
  | 0 => rfl
  | k + 1 => by rw [Mem.visits]; exact visits_count m k
theorem visits_left (m : Mem) : ∀ k, (m.visits k).left = m.left
  | 0 => rfl
  | k + 1 => by rw [Mem.visits]; exact visits_left m k
theorem found_le (m : Mem) (s : Nat) : ∀ k, m.found s k ≤ k
  | 0 => Nat.le_refl _
  | k + 1 => by
    have := found_le m s k
    rw [Mem.found]
    split <;> omega
theorem turns_le (m : Mem) (n : Int) : m.turns n ≤ m.code.length := by
  unfold Mem.turns
  split <;> omega
theorem at_set (m : Mem) (k c a : Nat) (hk : k < m.code.length) : (m.code.set k c)[a]?.getD 0 = if a = k then c else m.at a := by
  rw [List.getElem?_set]
  by_cases h : k = a
  · rw [if_pos h, if_pos h.symm, if_pos hk]; rfl
  · rw [if_neg h, if_neg (fun e => h e.symm)]; rfl
theorem enc_zero : E.enc 0 = 0 := by decide +kernel
theorem new_ok {n : Nat} (h1 : 1 ≤ n) (h2 : n ≤ 4096) : (Mem.new n).ok := by
  have hl : (Mem.new n).code.length = n := List.length_replicate
  refine ⟨by omega, by omega, by rw [hl]; exact h1, fun a => ?_, Nat.zero_le _⟩
  unfold Mem.at Mem.new
  rw [List.getElem?_replicate]
  split <;> decide
theorem write_ok {m : Mem} (h : m.ok) (a : Int) {w : Nat} (hw : w < 4294967296) : (m.write a w).ok := by
  unfold Mem.write
  split
  · next hc =>
    obtain ⟨k, rfl, hk⟩ := Mem.has_nat hc.1
    have hl : (m.code.set (k : Int).toNat (E.enc w)).length = m.code.length := List.length_set
    refine ⟨by rw [hl]; exact h.pos, by rw [hl]; exact h.most, by rw [hl]; exact h.next, fun a => ?_, by have := h.left; show m.left - 1 ≤ _; omega⟩
    show (m.code.set (k : Int).toNat (E.enc w))[a]?.getD 0 < _
    rw [Int.toNat_natCast, at_set m k _ a hk]
    split
    · exact (E.enc_ok hw).lt
    · exact h.small a
  · exact h
theorem fuse_ok {m : Mem} (h : m.ok) {n : Int} (hn : n ≤ 9223372036854775807) : (m.fuse n).ok := by
  unfold Mem.fuse
  split
  · exact h
  · exact ⟨h.pos, h.most, h.next, h.small, by show n.toNat ≤ _; omega⟩
theorem reset_ok {m : Mem} (h : m.ok) : m.reset.ok := ⟨h.pos, h.most, h.next, h.small, Nat.zero_le _⟩
theorem flip_ok {m : Mem} (h : m.ok) (a bit : Int) : (m.flip a bit).ok := by
  unfold Mem.flip
  split
  · next hc =>
    obtain ⟨k, rfl, hk⟩ := Mem.has_nat hc.1
    have hb := of_decide_eq_true hc.2
    have hl : (m.code.set (k : Int).toNat (m.at (k : Int).toNat ^^^ 2 ^ bit.toNat)).length = m.code.length := List.length_set
    refine ⟨by rw [hl]; exact h.pos, by rw [hl]; exact h.most, by rw [hl]; exact h.next, fun a => ?_, h.left⟩
    show (m.code.set (k : Int).toNat _)[a]?.getD 0 < _
    rw [Int.toNat_natCast, at_set m k _ a hk]
    split
    · exact Nat.xor_lt_two_pow (h.small k) (Nat.pow_lt_pow_right (by omega) (by omega))
    · exact h.small a
  · exact h
theorem visit_ok {m : Mem} (h : m.ok) : m.visit.ok := by
  have hl := visit_len m
  refine ⟨by rw [hl]; exact h.pos, by rw [hl]; exact h.most, by rw [hl]; exact Nat.mod_lt _ h.pos, fun a => ?_, h.left⟩
  show (if (E.dec (m.at m.next)).2 = 1 then m.code.set m.next (E.enc (E.dec (m.at m.next)).1) else m.code)[a]?.getD 0 < _
  split
  · rw [at_set m _ _ a h.next]
    split
    · exact (E.enc_ok (E.dec_lt _)).lt
    · exact h.small a
  · exact h.small a
theorem visits_ok {m : Mem} (h : m.ok) : ∀ k, (m.visits k).ok
  | 0 => h
  | k + 1 => visit_ok (visits_ok h k)
theorem scrub_ok {m : Mem} (h : m.ok) (n : Int) : (m.scrub n).ok := visits_ok h _
end M
end Go.Proofs.YtnoohhpajoaaoaaDoor
