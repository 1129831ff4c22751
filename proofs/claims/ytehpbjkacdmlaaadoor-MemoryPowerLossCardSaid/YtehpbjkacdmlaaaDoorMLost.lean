/-
  Mathematics of MemoryPowerLoss: 16 words, a fuse of n writes, k writes so far.
-/
import Derived.Test.YtehpbjkacdmlaaaDoorMFlips
namespace Go.Proofs.YtehpbjkacdmlaaaDoor
namespace M
open H (upd upd_same upd_other)
set_option linter.unusedVariables false
structure Lost (last : Nat → Nat) (n k : Nat) (m : Mem) : Prop where
  ok : m.ok
  len : m.code.length = 16
  off : m.off = decide (n ≤ k)
  left : m.left = n - k
  count : m.count = min n k
  small : ∀ a, a < 16 → last a < 4294967296
  clean : ∀ a, a < 16 → m.at a = E.enc (last a)
theorem Lost.start {n : Nat} (hn : n ≤ 63) : Lost (fun _ => 0) n 0 ((Mem.new 16).fuse n) := by
  have h0 : (Mem.new 16).off = false := rfl
  have hf : (Mem.new 16).fuse n = { Mem.new 16 with left := n, off := decide (n ≤ 0) } := by
    unfold Mem.fuse
    rw [h0, if_neg (by decide), Int.toNat_natCast]
    have : decide ((n : Int) = 0) = decide (n ≤ 0) := decide_eq_decide.mpr (by omega)
    rw [this]
  refine ⟨fuse_ok (new_ok (by decide) (by decide)) (by omega), ?_, ?_, ?_, ?_, fun a ha => by decide, fun a ha => ?_⟩
  · rw [hf]; rfl
  · rw [hf]
  · rw [hf]; rfl
  · rw [hf, Nat.min_zero]; rfl
  · have := Kept.start.clean a ha rfl
    rw [hf]
    exact this
theorem Lost.count_le {last : Nat → Nat} {n k : Nat} {m : Mem} (h : Lost last n k m) : m.count ≤ k := by rw [h.count]; exact Nat.min_le_right _ _
theorem Lost.write {last : Nat → Nat} {n k : Nat} {m : Mem} (h : Lost last n k m) (hk : k < n) {a x : Nat} (ha : a < 16) (hx : x < 4294967296) :
    m.writeE a = 0 ∧ Lost (upd last a x) n (k + 1) (m.write a x) := by
  have hl : a < m.code.length := by rw [h.len]; exact ha
  have ho : m.off = false := by rw [h.off]; exact decide_eq_false (by omega)
  have hw : m.write a x = { m with code := m.code.set a (E.enc x), count := m.count + 1, left := m.left - 1, off := decide (m.left = 1) } := by
    unfold Mem.write
    rw [if_pos ⟨(by unfold Mem.has; simp; omega), ho⟩, Int.toNat_natCast]
  refine ⟨writeE_ok hl ho, write_ok h.ok _ hx, (len_write _ _ _).trans h.len, ?_, ?_, by rw [write_count hl ho, h.count]; omega, fun j hj => ?_, fun j hj => ?_⟩
  · rw [hw]
    show decide (m.left = 1) = _
    rw [h.left]
    exact decide_eq_decide.mpr (by omega)
  · rw [hw]
    show m.left - 1 = _
    rw [h.left]; omega
  · by_cases e : j = a
    · rw [e, upd_same]; exact hx
    · rw [upd_other _ _ e]; exact h.small j hj
  · rw [at_write hl ho]
    by_cases e : j = a
    · rw [if_pos e, e, upd_same]
    · rw [if_neg e, upd_other _ _ e]; exact h.clean j hj
theorem Lost.late {last : Nat → Nat} {n k : Nat} {m : Mem} (h : Lost last n k m) (hk : n ≤ k) {a x : Nat} (ha : a < 16) :
    m.writeE a = 21 ∧ Lost last n (k + 1) (m.write a x) := by
  have ho : m.off = true := by rw [h.off]; exact decide_eq_true hk
  have hh : m.has a = true := by unfold Mem.has; rw [h.len]; simp; omega
  have hw : m.write a x = m := by
    unfold Mem.write
    rw [if_neg (by rw [ho]; simp)]
  rw [hw]
  refine ⟨by unfold Mem.writeE; rw [if_pos hh, if_pos ho], h.ok, h.len, ?_, by rw [h.left]; omega, by rw [h.count]; omega, h.small, h.clean⟩
  rw [h.off]
  exact decide_eq_decide.mpr (by omega)
theorem Lost.read {last : Nat → Nat} {n k : Nat} {m : Mem} (h : Lost last n k m) {a : Nat} (ha : a < 16) : m.readR a = (last a, 0) :=
  read_good (s := 0) (by rw [h.len]; exact ha) (by rw [h.clean a ha, E.dec_enc (E.enc_ok (h.small a ha))]) (by decide)
/-- The power is lost, and bit b of word 3 is wrong. -/
structure Dark (last b : Nat) (m : Mem) : Prop where
  ok : m.ok
  len : m.code.length = 16
  off : m.off = true
  three : m.at 3 = E.enc last ^^^ 2 ^ b
theorem fuse_same (m : Mem) (n : Int) : (m.fuse n).code = m.code ∧ (m.fuse n).count = m.count := by
  unfold Mem.fuse; split <;> exact ⟨rfl, rfl⟩
theorem fuse_fuse_off (m : Mem) : ((m.fuse 0).fuse 5).off = true := by
  have h : (m.fuse 0).off = true := by
    unfold Mem.fuse
    by_cases ho : m.off = true
    · rw [if_pos ho]; exact ho
    · rw [if_neg ho]; rfl
  have h2 : (m.fuse 0).fuse 5 = m.fuse 0 := by
    generalize m.fuse 0 = x at h
    unfold Mem.fuse
    rw [if_pos h]
  rw [h2]; exact h
theorem Lost.dark {last : Nat → Nat} {n k : Nat} {m : Mem} (h : Lost last n k m) {b : Nat} (hb : b < 39) : (m.fuse 0).ok ∧ ((m.fuse 0).fuse 5).ok ∧ Dark (last 3) b (((m.fuse 0).fuse 5).flip 3 b) ∧ (((m.fuse 0).fuse 5).flip 3 b).count ≤ k := by
  have o1 := fuse_ok h.ok (n := 0) (by decide)
  have o2 := fuse_ok o1 (n := 5) (by decide)
  have c1 := fuse_same m 0
  have c2 := fuse_same (m.fuse 0) 5
  have hl : ((m.fuse 0).fuse 5).code.length = 16 := by rw [c2.1, c1.1]; exact h.len
  have ha : ((m.fuse 0).fuse 5).at 3 = m.at 3 := by unfold Mem.at; rw [c2.1, c1.1]
  refine ⟨o1, o2, ⟨flip_ok o2 _ _, (len_flip _ _ _).trans hl, (flip_off _ _ _).trans (fuse_fuse_off m), ?_⟩, ?_⟩
  · have := at_flip (m := (m.fuse 0).fuse 5) (a := 3) (b := b) (by rw [hl]; decide) (by omega) 3
    rw [if_pos rfl, ha, h.clean 3 (by decide)] at this
    exact this
  · rw [flip_count, c2.2, c1.2]; exact h.count_le
theorem Dark.read {last b : Nat} {m : Mem} (h : Dark last b m) (hw : last < 4294967296) (hb : b < 39) : m.readR 3 = (last, 0) :=
  read_good (a := 3) (s := 1) (by rw [h.len]; decide) (by rw [h.three, E.dec_one (E.enc_ok hw) hb]) (by decide)
theorem Dark.scrub {last b : Nat} {m : Mem} (h : Dark last b m) : m.turns 16 = 0 ∧ m.scrub 16 = m := by
  have ht : m.turns 16 = 0 := by unfold Mem.turns; rw [if_pos (by simp [h.off])]
  refine ⟨ht, ?_⟩
  unfold Mem.scrub
  rw [ht]; rfl
theorem Dark.write {last b : Nat} {m : Mem} (h : Dark last b m) (x : Nat) : m.writeE 3 = 21 ∧ m.write 3 x = m := by
  have hh : m.has 3 = true := by unfold Mem.has; rw [h.len]; rfl
  refine ⟨by unfold Mem.writeE; rw [if_pos hh, if_pos h.off], ?_⟩
  unfold Mem.write
  rw [if_neg (by rw [h.off]; simp)]
theorem Dark.back {last b : Nat} {m : Mem} (h : Dark last b m) (x : Nat) : m.reset.ok ∧ m.reset.writeE 3 = 0 ∧ (m.reset.write 3 x).off = false := by
  have hh : m.reset.has 3 = true := by
    have hl : m.reset.code.length = 16 := h.len
    unfold Mem.has; rw [hl]; rfl
  refine ⟨reset_ok h.ok, by unfold Mem.writeE; rw [if_pos hh]; rfl, ?_⟩
  unfold Mem.write
  rw [if_pos ⟨hh, rfl⟩]; rfl
end M
end Go.Proofs.YtehpbjkacdmlaaaDoor
