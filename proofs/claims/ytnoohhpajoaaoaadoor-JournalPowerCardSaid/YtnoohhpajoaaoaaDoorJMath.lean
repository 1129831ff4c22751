/-
  Memories that hold words, some of them with flipped bits; what writing does to them.
-/
import Derived.Test.YtnoohhpajoaaoaaDoorMScrub
namespace Go.Proofs.YtnoohhpajoaaoaaDoor
namespace J
open M
set_option linter.unusedVariables false
/-- Word a is as it was written. -/
def Clean (m : Mem) (ws : Nat → Nat) (a : Nat) : Prop := m.at a = E.enc (ws a)
/-- Word a has one flipped bit. -/
def One (m : Mem) (ws : Nat → Nat) (a : Nat) : Prop := ∃ i, i < 39 ∧ m.at a = E.enc (ws a) ^^^ 2 ^ i
/-- Word a has two flipped bits. -/
def Two (m : Mem) (ws : Nat → Nat) (a : Nat) : Prop := ∃ i j, i < 39 ∧ j < 39 ∧ i ≠ j ∧ m.at a = E.enc (ws a) ^^^ 2 ^ i ^^^ 2 ^ j
/-- Each word has at most one flipped bit. -/
def Near (m : Mem) (ws : Nat → Nat) : Prop := ∀ a, a < m.code.length → ws a < 4294967296 ∧ (Clean m ws a ∨ One m ws a)
/-- Each word has at most two flipped bits. -/
def Weak (m : Mem) (ws : Nat → Nat) : Prop := ∀ a, a < m.code.length → ws a < 4294967296 ∧ (Clean m ws a ∨ One m ws a ∨ Two m ws a)
theorem Near.weak {m : Mem} {ws : Nat → Nat} (h : Near m ws) : Weak m ws := fun a ha => ⟨(h a ha).1, (h a ha).2.elim .inl fun h => .inr (.inl h)⟩
theorem clean_dec {m : Mem} {ws : Nat → Nat} {a : Nat} (hw : ws a < 4294967296) (h : Clean m ws a) : E.dec (m.at a) = (ws a, 0) := by rw [h]; exact E.dec_enc (E.enc_ok hw)
theorem one_dec {m : Mem} {ws : Nat → Nat} {a : Nat} (hw : ws a < 4294967296) (h : One m ws a) : E.dec (m.at a) = (ws a, 1) := by
  obtain ⟨i, hi, h⟩ := h
  rw [h]
  exact E.dec_one (E.enc_ok hw) hi
theorem two_dec {m : Mem} {ws : Nat → Nat} {a : Nat} (hw : ws a < 4294967296) (h : Two m ws a) : E.dec (m.at a) = (0, 2) := by
  obtain ⟨i, j, hi, hj, hij, h⟩ := h
  rw [h]
  exact E.dec_two (E.enc_ok hw) hi hj hij
theorem Near.read {m : Mem} {ws : Nat → Nat} (h : Near m ws) {a : Nat} (ha : a < m.code.length) : m.readR a = (ws a, 0) := by
  rcases (h a ha).2 with hc | hc
  · exact read_good ha (clean_dec (h a ha).1 hc) (by decide)
  · exact read_good ha (one_dec (h a ha).1 hc) (by decide)
theorem Weak.read {m : Mem} {ws : Nat → Nat} (h : Weak m ws) {a : Nat} (ha : a < m.code.length) : m.readR a = (ws a, 0) ∨ m.readR a = (0, 20) := by
  rcases (h a ha).2 with hc | hc | hc
  · exact .inl (read_good ha (clean_dec (h a ha).1 hc) (by decide))
  · exact .inl (read_good ha (one_dec (h a ha).1 hc) (by decide))
  · exact .inr (read_bad ha (by rw [two_dec (h a ha).1 hc]))
/-- A word changes by a flip of bit b. -/
theorem Near.flip {m : Mem} {ws : Nat → Nat} (h : Near m ws) {a b : Nat} (ha : a < m.code.length) (hb : b < 39) (hc : Clean m ws a) : Near (m.flip a b) ws := by
  intro j hj
  rw [len_flip] at hj
  refine ⟨(h j hj).1, ?_⟩
  by_cases e : j = a
  · subst e
    right
    exact ⟨b, hb, by rw [at_flip ha (by omega), if_pos rfl, hc]⟩
  · have e1 : (m.flip a b).at j = m.at j := by rw [at_flip ha (by omega), if_neg e]
    unfold Clean One
    rw [e1]
    exact (h j hj).2
theorem flip_clean_other {m : Mem} {ws : Nat → Nat} {a b j : Nat} (ha : a < m.code.length) (hb : b < 39) (hj : j ≠ a) (hc : Clean m ws j) : Clean (m.flip a b) ws j := by
  unfold Clean
  rw [at_flip ha (by omega), if_neg hj]
  exact hc
/-- What writes do: each word is as it was, or has been written. -/
structure Wrote (m m' : Mem) (ws ws' : Nat → Nat) : Prop where
  len : m'.code.length = m.code.length
  next : m'.next = m.next
  count : m'.count ≤ m.count + 20000
  word : ∀ a, a < m.code.length → (m'.at a = m.at a ∧ ws' a = ws a) ∨ (m'.at a = E.enc (ws' a) ∧ ws' a < 4294967296)
theorem Wrote.refl (m : Mem) (ws : Nat → Nat) : Wrote m m ws ws := ⟨rfl, rfl, by omega, fun a _ => .inl ⟨rfl, rfl⟩⟩
theorem Wrote.clean {m m' : Mem} {ws ws' : Nat → Nat} (h : Wrote m m' ws ws') {a : Nat} (ha : a < m.code.length) (hc : Clean m ws a) : Clean m' ws' a := by
  unfold Clean at *
  rcases h.word a ha with ⟨h1, h2⟩ | ⟨h1, _⟩
  · rw [h1, h2, hc]
  · exact h1
theorem Wrote.near {m m' : Mem} {ws ws' : Nat → Nat} (h : Wrote m m' ws ws') (hn : Near m ws) : Near m' ws' := fun a ha => by
  rw [h.len] at ha
  rcases h.word a ha with ⟨h1, h2⟩ | ⟨h1, h2⟩
  · have := hn a ha
    unfold Clean One at *
    rw [h1, h2]
    exact this
  · exact ⟨h2, .inl h1⟩
theorem Wrote.weak {m m' : Mem} {ws ws' : Nat → Nat} (h : Wrote m m' ws ws') (hn : Weak m ws) : Weak m' ws' := fun a ha => by
  rw [h.len] at ha
  rcases h.word a ha with ⟨h1, h2⟩ | ⟨h1, h2⟩
  · have := hn a ha
    unfold Clean One Two at *
    rw [h1, h2]
    exact this
  · exact ⟨h2, .inl h1⟩
theorem Near.scrub {m : Mem} {ws : Nat → Nat} (hm : m.ok) (h : Near m ws) (ho : m.off = false) {n : Int} (hn : n = m.code.length) : Near (m.scrub n) ws ∧ (∀ a, a < m.code.length → Clean (m.scrub n) ws a) ∧ (m.scrub n).code.length = m.code.length := by
  have ht : m.turns n = m.code.length := by unfold Mem.turns; rw [ho, hn]; simp
  have he : m.scrub n = m.visits m.code.length := by unfold Mem.scrub; rw [ht]
  have hl : (m.scrub n).code.length = m.code.length := by rw [he]; exact visits_len m _
  have hc : ∀ a, a < m.code.length → Clean (m.scrub n) ws a := fun a ha => by
    unfold Clean
    rw [he, visits_whole hm.next ha]
    rcases (h a ha).2 with hc | ⟨i, hi, hc⟩
    · rw [hc]; exact fix_enc (h a ha).1
    · rw [hc]; exact fix_one (h a ha).1 hi
  exact ⟨fun a ha => ⟨(h a (by rw [← hl]; exact ha)).1, .inl (hc a (by rw [← hl]; exact ha))⟩, hc, hl⟩
theorem scrub_off {m : Mem} (ho : m.off = true) (n : Int) : m.scrub n = m := by
  have ht : m.turns n = 0 := by unfold Mem.turns; rw [ho]; rfl
  unfold Mem.scrub
  rw [ht]; rfl
theorem new_near {n : Nat} (h1 : 1 ≤ n) : Near (Mem.new n) (fun _ => 0) ∧ ∀ a, a < n → Clean (Mem.new n) (fun _ => 0) a := by
  have hc : ∀ a, a < n → Clean (Mem.new n) (fun _ => 0) a := fun a ha => by
    unfold Clean
    rw [enc_zero]
    unfold Mem.at Mem.new
    rw [List.getElem?_replicate, if_pos ha]; rfl
  have hl : (Mem.new n).code.length = n := List.length_replicate
  exact ⟨fun a ha => ⟨by show (0 : Nat) < _; decide, .inl (hc a (by omega))⟩, hc⟩
theorem Near.as {m m' : Mem} {ws : Nat → Nat} (h : Near m ws) (hc : m'.code = m.code) : Near m' ws := fun a ha => by
  have e : m'.at a = m.at a := by unfold Mem.at; rw [hc]
  rw [hc] at ha
  have := h a ha
  unfold Clean One at *
  rw [e]
  exact this
theorem clean_as {m m' : Mem} {ws : Nat → Nat} {a : Nat} (h : Clean m ws a) (hc : m'.code = m.code) : Clean m' ws a := by
  have e : m'.at a = m.at a := by unfold Mem.at; rw [hc]
  unfold Clean at *
  rw [e]
  exact h
theorem fuse_code (m : Mem) (n : Int) : (m.fuse n).code = m.code := by unfold Mem.fuse; split <;> rfl
theorem reset_code (m : Mem) : m.reset.code = m.code := rfl
end J
end Go.Proofs.YtnoohhpajoaaoaaDoor
