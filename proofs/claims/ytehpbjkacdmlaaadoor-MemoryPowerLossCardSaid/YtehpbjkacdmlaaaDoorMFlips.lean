/-
  Mathematics of MemorySingleFlips and MemoryPowerLoss: 16 words, each with at most one wrong bit.
-/
import Derived.Test.YtehpbjkacdmlaaaDoorMScrub
import Derived.Test.YtehpbjkacdmlaaaDoorFoot
namespace Go.Proofs.YtehpbjkacdmlaaaDoor
namespace M
open H (upd upd_same upd_other)
set_option linter.unusedVariables false
structure Kept (last : Nat → Nat) (fl : Nat → Bool) (m : Mem) : Prop where
  ok : m.ok
  len : m.code.length = 16
  on : m.off = false
  left : m.left = 0
  small : ∀ a, a < 16 → last a < 4294967296
  clean : ∀ a, a < 16 → fl a = false → m.at a = E.enc (last a)
  wrong : ∀ a, a < 16 → fl a = true → ∃ i, i < 39 ∧ m.at a = E.enc (last a) ^^^ 2 ^ i
theorem Kept.start : Kept (fun _ => 0) (fun _ => false) (Mem.new 16) := by
  refine ⟨new_ok (by decide) (by decide), rfl, rfl, rfl, fun a ha => by decide, fun a ha _ => ?_, fun a ha h => by cases h⟩
  unfold Mem.at Mem.new
  rw [List.getElem?_replicate, if_pos ha, enc_zero]; rfl
theorem Kept.write {last : Nat → Nat} {fl : Nat → Bool} {m : Mem} (h : Kept last fl m) {a x : Nat} (ha : a < 16) (hx : x < 4294967296) :
    m.writeE a = 0 ∧ (m.write a x).count = m.count + 1 ∧ Kept (upd last a x) (upd fl a false) (m.write a x) := by
  have hl : a < m.code.length := by rw [h.len]; exact ha
  have ho := write_on a x h.on h.left
  refine ⟨writeE_ok hl h.on, write_count hl h.on x, write_ok h.ok _ hx, (len_write _ _ _).trans h.len, ho.1, ho.2, fun j hj => ?_, fun j hj hf => ?_, fun j hj hf => ?_⟩
  · by_cases e : j = a
    · rw [e, upd_same]; exact hx
    · rw [upd_other _ _ e]; exact h.small j hj
  · rw [at_write hl h.on]
    by_cases e : j = a
    · rw [if_pos e, e, upd_same]
    · rw [if_neg e, upd_other _ _ e]
      rw [upd_other _ _ e] at hf
      exact h.clean j hj hf
  · by_cases e : j = a
    · rw [e, upd_same] at hf; cases hf
    · rw [upd_other _ _ e] at hf
      rw [at_write hl h.on, if_neg e, upd_other _ _ e]
      exact h.wrong j hj hf
theorem Kept.flip {last : Nat → Nat} {fl : Nat → Bool} {m : Mem} (h : Kept last fl m) {a i : Nat} (ha : a < 16) (hi : i < 39) (hf : fl a = false) :
    m.flipE a i = 0 ∧ (m.flip a i).count = m.count ∧ Kept last (upd fl a true) (m.flip a i) := by
  have hl : a < m.code.length := by rw [h.len]; exact ha
  refine ⟨flipE_ok hl (by omega), flip_count _ _ _, flip_ok h.ok _ _, (len_flip _ _ _).trans h.len, (flip_off _ _ _).trans h.on, (flip_left _ _ _).trans h.left, h.small, fun j hj hf2 => ?_, fun j hj hf2 => ?_⟩
  · by_cases e : j = a
    · rw [e, upd_same] at hf2; cases hf2
    · rw [upd_other _ _ e] at hf2
      rw [at_flip hl (by omega), if_neg e]
      exact h.clean j hj hf2
  · rw [at_flip hl (by omega)]
    by_cases e : j = a
    · rw [if_pos e, e]
      exact ⟨i, hi, by rw [h.clean a ha hf]⟩
    · rw [upd_other _ _ e] at hf2
      rw [if_neg e]
      exact h.wrong j hj hf2
theorem Kept.read {last : Nat → Nat} {fl : Nat → Bool} {m : Mem} (h : Kept last fl m) {a : Nat} (ha : a < 16) : m.readR a = (last a, 0) := by
  have hl : a < m.code.length := by rw [h.len]; exact ha
  have hw := h.small a ha
  cases hf : fl a with
  | false => exact read_good (s := 0) hl (by rw [h.clean a ha hf, E.dec_enc (E.enc_ok hw)]) (by decide)
  | true =>
    obtain ⟨i, hi, he⟩ := h.wrong a ha hf
    exact read_good (s := 1) hl (by rw [he, E.dec_one (E.enc_ok hw) hi]) (by decide)
end M
end Go.Proofs.YtehpbjkacdmlaaaDoor
