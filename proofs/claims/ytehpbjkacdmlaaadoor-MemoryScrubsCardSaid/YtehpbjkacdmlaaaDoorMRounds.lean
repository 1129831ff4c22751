/-
  Mathematics of MemoryScrubs: words, of which some have one wrong bit, and a scrub of all.
-/
import Derived.Test.YtehpbjkacdmlaaaDoorMScrub
import Derived.Test.YtehpbjkacdmlaaaDoorMPace
namespace Go.Proofs.YtehpbjkacdmlaaaDoor
namespace M
set_option linter.unusedVariables false
/-- The first k of n words are written. -/
structure Stored (ws : Nat → Nat) (n k : Nat) (m : Mem) : Prop where
  ok : m.ok
  len : m.code.length = n
  on : m.off = false
  left : m.left = 0
  count : m.count = k
  words : ∀ j, j < n → m.at j = E.enc (if j < k then ws j else 0)
theorem Stored.start (ws : Nat → Nat) {n : Nat} (h1 : 1 ≤ n) (h2 : n ≤ 4096) : Stored ws n 0 (Mem.new n) := by
  refine ⟨new_ok h1 h2, List.length_replicate, rfl, rfl, rfl, fun j hj => ?_⟩
  unfold Mem.at Mem.new
  rw [if_neg (by omega), List.getElem?_replicate, if_pos hj, enc_zero]; rfl
theorem Stored.write {ws : Nat → Nat} {n k : Nat} {m : Mem} (h : Stored ws n k m) (hk : k < n) (hw : ws k < 4294967296) : m.writeE k = 0 ∧ Stored ws n (k + 1) (m.write k (ws k)) := by
  have hl : k < m.code.length := by rw [h.len]; exact hk
  have ho := write_on k (ws k) h.on h.left
  refine ⟨writeE_ok hl h.on, write_ok h.ok _ hw, (len_write _ _ _).trans h.len, ho.1, ho.2, by rw [write_count hl h.on, h.count], fun j hj => ?_⟩
  rw [at_write hl h.on, h.words j hj]
  by_cases e : j = k
  · have h3 : j < k + 1 := by omega
    rw [if_pos e, if_pos h3, e]
  · rw [if_neg e]
    by_cases h1 : j < k
    · have h3 : j < k + 1 := by omega
      rw [if_pos h1, if_pos h3]
    · have h3 : ¬ j < k + 1 := by omega
      rw [if_neg h1, if_neg h3]
/-- All words are stored; of the first k those that ch selects have a wrong bit. -/
structure Hit (ws : Nat → Nat) (ch : Nat → Bool) (f : Nat → Nat) (n k : Nat) (m : Mem) : Prop where
  ok : m.ok
  len : m.code.length = n
  on : m.off = false
  count : m.count = n
  words : ∀ j, j < n → m.at j = if j < k ∧ ch j = true then E.enc (ws j) ^^^ 2 ^ f j else E.enc (ws j)
theorem Stored.hit {ws : Nat → Nat} {n : Nat} {m : Mem} (h : Stored ws n n m) (ch : Nat → Bool) (f : Nat → Nat) : Hit ws ch f n 0 m :=
  ⟨h.ok, h.len, h.on, h.count, fun j hj => by rw [h.words j hj, if_pos hj, if_neg (by omega)]⟩
theorem Hit.turn {ws : Nat → Nat} {ch : Nat → Bool} {f : Nat → Nat} {n : Nat} {m : Mem} (h : Hit ws ch f n 0 m) (ch2 : Nat → Bool) (f2 : Nat → Nat) : Hit ws ch2 f2 n 0 m :=
  ⟨h.ok, h.len, h.on, h.count, fun j hj => by rw [h.words j hj, if_neg (by omega), if_neg (by omega)]⟩
theorem Hit.skip {ws : Nat → Nat} {ch : Nat → Bool} {f : Nat → Nat} {n k : Nat} {m : Mem} (h : Hit ws ch f n k m) (hc : ch k = false) : Hit ws ch f n (k + 1) m :=
  ⟨h.ok, h.len, h.on, h.count, fun j hj => by
    rw [h.words j hj]
    by_cases e : j = k
    · have h1 : ¬ (j < k ∧ ch j = true) := by omega
      have h2 : ¬ (j < k + 1 ∧ ch j = true) := by rw [e, hc]; simp
      rw [if_neg h1, if_neg h2]
    · have h1 : (j < k ∧ ch j = true) ↔ (j < k + 1 ∧ ch j = true) := by constructor <;> (rintro ⟨a, b⟩; exact ⟨by omega, b⟩)
      simp only [h1]⟩
theorem Hit.flip {ws : Nat → Nat} {ch : Nat → Bool} {f : Nat → Nat} {n k : Nat} {m : Mem} (h : Hit ws ch f n k m) (hk : k < n) (hf : f k < 39) (hc : ch k = true) : m.flipE k (f k) = 0 ∧ Hit ws ch f n (k + 1) (m.flip k (f k)) := by
  have hl : k < m.code.length := by rw [h.len]; exact hk
  refine ⟨flipE_ok hl (by omega), flip_ok h.ok _ _, (len_flip _ _ _).trans h.len, (flip_off _ _ _).trans h.on, (flip_count _ _ _).trans h.count, fun j hj => ?_⟩
  have h0 : m.at k = E.enc (ws k) := by rw [h.words k hk, if_neg (by omega)]
  rw [at_flip hl (by omega), h0, h.words j hj]
  by_cases e : j = k
  · have h2 : j < k + 1 ∧ ch j = true := ⟨by omega, by rw [e]; exact hc⟩
    rw [if_pos e, if_pos h2, e]
  · have h1 : (j < k ∧ ch j = true) ↔ (j < k + 1 ∧ ch j = true) := by constructor <;> (rintro ⟨a, b⟩; exact ⟨by omega, b⟩)
    rw [if_neg e]
    simp only [h1]
theorem Hit.scrub {ws : Nat → Nat} {ch : Nat → Bool} {f : Nat → Nat} {n : Nat} {m : Mem} (h : Hit ws ch f n n m) (hw : ∀ j, j < n → ws j < 4294967296) (hf : ∀ j, f j < 39) :
    m.turns n = n ∧ m.found 1 n = tally ch n ∧ m.found 2 n = 0 ∧ Hit ws ch f n 0 (m.scrub n) := by
  have hn := h.ok.next
  have hT : m.turns n = n := by
    unfold Mem.turns
    rw [if_neg (by simp [h.on]), h.len, Int.toNat_natCast]; omega
  have hd : ∀ j, j < n → (E.dec (m.at j)).2 = if ch j = true then 1 else 0 := fun j hj => by
    rw [h.words j hj]
    by_cases hc : ch j = true
    · rw [if_pos ⟨hj, hc⟩, if_pos hc, E.dec_one (E.enc_ok (hw j hj)) (hf j)]
    · rw [if_neg (fun e => hc e.2), if_neg hc, E.dec_enc (E.enc_ok (hw j hj))]
  have fw := fun s => found_whole hn s
  rw [h.len] at fw
  refine ⟨hT, ?_, ?_, scrub_ok h.ok _, (visits_len _ _).trans h.len, (visits_off _ _).trans h.on, (visits_count _ _).trans h.count, fun j hj => ?_⟩
  · rw [fw]
    refine tally_congr fun j hj => ?_
    rw [hd j hj]
    cases ch j <;> rfl
  · rw [fw]
    refine tally_none fun j hj => ?_
    rw [hd j hj]
    cases ch j <;> rfl
  · have hv := visits_whole hn (j := j) (by rw [h.len]; exact hj)
    rw [h.len] at hv
    unfold Mem.scrub
    have hr : ¬ (j < 0 ∧ ch j = true) := fun e => Nat.not_lt_zero _ e.1
    rw [hT, hv, h.words j hj, if_neg hr]
    by_cases hc : ch j = true
    · rw [if_pos ⟨hj, hc⟩, fix_one (hw j hj) (hf j)]
    · rw [if_neg (fun e => hc e.2), fix_enc (hw j hj)]
theorem Hit.read {ws : Nat → Nat} {ch : Nat → Bool} {f : Nat → Nat} {n : Nat} {m : Mem} (h : Hit ws ch f n 0 m) {j : Nat} (hj : j < n) (hw : ws j < 4294967296) : m.readR j = (ws j, 0) := by
  refine read_good (s := 0) (by rw [h.len]; exact hj) ?_ (by decide)
  rw [h.words j hj, if_neg (fun e => Nat.not_lt_zero _ e.1), E.dec_enc (E.enc_ok hw)]
theorem Hit.whole {ws : Nat → Nat} {ch : Nat → Bool} {f : Nat → Nat} {n : Nat} {m : Mem} (h : Hit ws ch f n 0 m) (hw : ∀ j, j < n → ws j < 4294967296) : m.turns n = n ∧ m.found 1 n = 0 ∧ m.found 2 n = 0 ∧ (m.scrub n).count = n := by
  have h1 : Hit ws (fun _ => false) (fun _ => 0) n n m := ⟨h.ok, h.len, h.on, h.count, fun j hj => by rw [h.words j hj, if_neg (fun e => Nat.not_lt_zero _ e.1), if_neg (by simp)]⟩
  obtain ⟨a, b, c, d⟩ := h1.scrub hw (fun _ => by decide)
  exact ⟨a, by rw [b]; exact tally_none fun _ _ => rfl, c, d.count⟩
theorem tally_le (f : Nat → Bool) : ∀ k, tally f k ≤ k
  | 0 => Nat.le_refl _
  | k + 1 => by
    have := tally_le f k
    rw [tally]
    split <;> omega
end M
end Go.Proofs.YtehpbjkacdmlaaaDoor
