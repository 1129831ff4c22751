/-
  Mathematics of MemoryDoubleFlips.
-/
import Derived.Test.YtehpbjkacdmlaaaDoorMScrub
namespace Go.Proofs.YtehpbjkacdmlaaaDoor
namespace M
set_option linter.unusedVariables false
def D1 (w : Nat) : Mem := (Mem.new 3).write 1 w
def D3 (w a b : Nat) : Mem := ((D1 w).flip 1 a).flip 1 b
def D4 (w a b : Nat) : Mem := (D3 w a b).scrub 3
def D5 (w a b : Nat) : Mem := (D4 w a b).flip 1 b
def D6 (w a b : Nat) : Mem := (D5 w a b).flip 1 b
def D7 (w v a b : Nat) : Mem := (D6 w a b).write 1 v
structure DF (w v a b : Nat) : Prop where
  ok0 : (Mem.new 3).ok
  ok1 : (D1 w).ok
  ok2 : ((D1 w).flip 1 a).ok
  ok3 : (D3 w a b).ok
  ok4 : (D4 w a b).ok
  ok5 : (D5 w a b).ok
  ok6 : (D6 w a b).ok
  ok7 : (D7 w v a b).ok
  count : (D6 w a b).count < 1000000
  read3 : (D3 w a b).readR 1 = (0, 20)
  turns : (D3 w a b).turns 3 = 3
  one : (D3 w a b).found 1 3 = 0
  two : (D3 w a b).found 2 3 = 1
  read4 : (D4 w a b).readR 1 = (0, 20)
  read5 : (D5 w a b).readR 1 = (w, 0)
  write6 : (D6 w a b).writeE 1 = 0
  read7 : (D7 w v a b).readR 1 = (v, 0)
theorem new3_at (j : Nat) : (Mem.new 3).at j = E.enc 0 := by
  unfold Mem.at Mem.new
  rw [List.getElem?_replicate, enc_zero]
  split <;> rfl
theorem df {w v a b : Nat} (hw : w < 4294967296) (hv : v < 4294967296) (ha : a < 39) (hb : b < 39) (hab : a ≠ b) : DF w v a b := by
  have o0 : (Mem.new 3).ok := new_ok (by decide) (by decide)
  have o1 : (D1 w).ok := write_ok o0 _ hw
  have o2 : ((D1 w).flip 1 a).ok := flip_ok o1 _ _
  have o3 : (D3 w a b).ok := flip_ok o2 _ _
  have o4 : (D4 w a b).ok := scrub_ok o3 _
  have o5 : (D5 w a b).ok := flip_ok o4 _ _
  have o6 : (D6 w a b).ok := flip_ok o5 _ _
  have l0 : (Mem.new 3).code.length = 3 := rfl
  have l1 : (D1 w).code.length = 3 := len_write _ _ _
  have l2 : ((D1 w).flip 1 a).code.length = 3 := (len_flip _ _ _).trans l1
  have l3 : (D3 w a b).code.length = 3 := (len_flip _ _ _).trans l2
  have l4 : (D4 w a b).code.length = 3 := (visits_len _ _).trans l3
  have l5 : (D5 w a b).code.length = 3 := (len_flip _ _ _).trans l4
  have l6 : (D6 w a b).code.length = 3 := (len_flip _ _ _).trans l5
  have l7 : (D7 w v a b).code.length = 3 := (len_write _ _ _).trans l6
  have f1 := write_on (m := Mem.new 3) 1 w rfl rfl
  have f3 : (D3 w a b).off = false := (flip_off _ _ _).trans ((flip_off _ _ _).trans f1.1)
  have f6 : (D6 w a b).off = false := (flip_off _ _ _).trans ((flip_off _ _ _).trans ((visits_off _ _).trans f3))
  have n3 : (D3 w a b).next = 0 := (flip_next _ _ _).trans ((flip_next _ _ _).trans (write_next _ _ _))
  have a1 : ∀ j, (D1 w).at j = if j = 1 then E.enc w else E.enc 0 := fun j => by
    have := at_write (m := Mem.new 3) (a := 1) (by rw [l0]; decide) rfl w j
    rw [new3_at] at this; exact this
  have a2 : ∀ j, ((D1 w).flip 1 a).at j = if j = 1 then E.enc w ^^^ 2 ^ a else E.enc 0 := fun j => by
    have := at_flip (m := D1 w) (a := 1) (b := a) (by rw [l1]; decide) (by omega) j
    refine this.trans ?_
    rw [a1, a1]
    by_cases h : j = 1 <;> simp [h]
  have a3 : ∀ j, (D3 w a b).at j = if j = 1 then E.enc w ^^^ 2 ^ a ^^^ 2 ^ b else E.enc 0 := fun j => by
    have := at_flip (m := (D1 w).flip 1 a) (a := 1) (b := b) (by rw [l2]; decide) (by omega) j
    refine this.trans ?_
    rw [a2, a2]
    by_cases h : j = 1 <;> simp [h]
  have t3 : (D3 w a b).turns 3 = 3 := by
    unfold Mem.turns
    rw [if_neg (by simp [f3]), l3]; rfl
  have a4 : ∀ j, j < 3 → (D4 w a b).at j = if j = 1 then E.enc w ^^^ 2 ^ a ^^^ 2 ^ b else E.enc 0 := fun j hj => by
    have := visits_whole (m := D3 w a b) o3.next (j := j) (by rw [l3]; exact hj)
    unfold D4 Mem.scrub
    rw [t3, ← l3, this, a3]
    by_cases h : j = 1
    · rw [if_pos h, fix_two hw ha hb hab]
    · rw [if_neg h, fix_enc (by decide)]
  have a5 : (D5 w a b).at 1 = E.enc w ^^^ 2 ^ a := by
    have := at_flip (m := D4 w a b) (a := 1) (b := b) (by rw [l4]; decide) (by omega) 1
    refine this.trans ?_
    rw [if_pos rfl, a4 1 (by decide), if_pos rfl, E.xor_xor]
  have d0 := E.dec_enc (E.enc_ok (show 0 < 4294967296 by decide))
  have d3 := E.dec_two (E.enc_ok hw) ha hb hab
  have e3 : ∀ s j, j < 3 → decide ((E.dec ((D3 w a b).at j)).2 = s) = decide ((if j = 1 then 2 else 0) = s) := fun s j hj => by
    rw [a3]
    by_cases h : j = 1
    · rw [if_pos h, if_pos h, d3]
    · rw [if_neg h, if_neg h, d0]
  have fw := fun s => found_whole (m := D3 w a b) o3.next s
  rw [l3] at fw
  refine ⟨o0, o1, o2, o3, o4, o5, o6, write_ok o6 _ hv, ?_, read_bad (by rw [l3]; decide) (by rw [a3, if_pos rfl, d3]), t3, ?_, ?_, read_bad (by rw [l4]; decide) (by rw [a4 1 (by decide), if_pos rfl, d3]), read_good (s := 1) (by rw [l5]; decide) (by rw [a5, E.dec_one (E.enc_ok hw) ha]) (by decide), writeE_ok (a := 1) (by rw [l6]; decide) f6, ?_⟩
  · have : (D6 w a b).count = 1 := (flip_count _ _ _).trans ((flip_count _ _ _).trans ((visits_count _ _).trans ((flip_count _ _ _).trans ((flip_count _ _ _).trans (write_count (m := Mem.new 3) (a := 1) (by rw [l0]; decide) rfl w)))))
    rw [this]; decide
  · rw [fw, tally_congr (fun j hj => e3 1 j hj)]; rfl
  · rw [fw, tally_congr (fun j hj => e3 2 j hj)]; rfl
  · have a7 : (D7 w v a b).at 1 = E.enc v := by
      have := at_write (m := D6 w a b) (a := 1) (by rw [l6]; decide) f6 v 1
      exact this.trans (if_pos rfl)
    exact read_good (s := 0) (by rw [l7]; decide) (by rw [a7, E.dec_enc (E.enc_ok hv)]) (by decide)
end M
end Go.Proofs.YtehpbjkacdmlaaaDoor
