/-
  wordAt of a string: the number of the group of up to 8 bytes that begins at a place.
-/
import Derived.Test.YtcgppbbpdnobfaaHBase
namespace Go.Proofs.Ytcgppbbpdnobfaa
open Go.RowKit
namespace H

def bytesOf (s : ByteArray) : List Int := s.data.toList.map fun c => (c.toNat : Int)
theorem bytesOf_length (s : ByteArray) : (bytesOf s).length = s.size := by simp [bytesOf]
theorem bytesOf_byt (s : ByteArray) : Byt (bytesOf s) := by
  intro b hb
  simp only [bytesOf, List.mem_map] at hb
  obtain ⟨c, _, rfl⟩ := hb
  have := c.toNat_lt
  omega
theorem bytesOf_get (s : ByteArray) (k : Nat) (h : k < s.size) : (bytesOf s)[k]'(by rw [bytesOf_length]; exact h) = (s[k].toNat : Int) := by
  simp only [bytesOf, List.getElem_map]
  rfl

theorem take_one (bs : List Int) (st k : Nat) (h : st + k < bs.length) : (bs.drop st).take (k + 1) = (bs.drop st).take k ++ [bs[st + k]] := by
  rw [List.take_succ_eq_append_getElem (by simp; omega)]
  simp
theorem take_end (bs : List Int) (st k : Nat) (h : k ≤ 8 ∧ (8 ≤ k ∨ bs.length ≤ st + k)) : (bs.drop st).take k = (bs.drop st).take 8 := by
  obtain ⟨h8, h | h⟩ := h
  · obtain rfl : k = 8 := by omega
    rfl
  · rw [List.take_of_length_le (by simp; omega), List.take_of_length_le (by simp; omega)]

set_option maxHeartbeats 400000 in
theorem wordS_any (s : ByteArray) (st : Nat) (w : World) (hs : s.size ≤ maxLen) (hst : st < s.size) :
    Calls Try.prog 31 #[.string s, .int .i64 st] w fun e w' => e = .returned (.int .u64 (le8 (((bytesOf s).drop st).take 8))) ∧ w = w' := by
  unfold maxLen at hs
  go_enter Try.func31, Try.ntmps31
  go_wp2
  all_goals
    go_loop [5, 12] (fun x i => ∃ k : Nat, k ≤ 8 ∧ st + k ≤ s.size ∧ i = .int .i64 k ∧ x = .int .u64 (le8 (((bytesOf s).drop st).take k))) (fun _ i => 8 - (intOf i).toNat)
    case atStart => exact ⟨0, by omega, by omega, rfl, by simp [le8]⟩
    case round =>
      obtain ⟨k, hk, hk2, rfl, rfl⟩ := hrel
      generalize hx : le8 (((bytesOf s).drop st).take k) = x
      have HX := Lib.hid hx
      clear hx
      by_cases hlt : k < 8 ∧ st + k < s.size
      · obtain ⟨hl1, hl2⟩ := hlt
        go_wp2
        go_round
        case rel =>
          refine ⟨k + 1, by omega, by omega, by go_num, ?_⟩
          rw [← HX.out, take_one _ st k (by rw [bytesOf_length]; omega), bytesOf_get s (st + k) (by omega)]
          have hlen : (((bytesOf s).drop st).take k).length = k := by simp [bytesOf_length]; omega
          have := or_form (g := ((bytesOf s).drop st).take k) (fun b hb => bytesOf_byt s b (List.mem_of_mem_drop (List.mem_of_mem_take hb))) (s[st + k].toNat) (UInt8.toNat_lt _) (by omega)
          rw [hlen] at this
          exact congrArg _ this
        case measure => simp [intOf]; omega
      · go_wp2
        go_ret
        exact ⟨ret_int (by rw [← HX.out]; congr 1; exact take_end _ st k (by rw [bytesOf_length]; omega)), rfl⟩

theorem wordS_at (s : ByteArray) (k : Nat) (w : World) (hs : s.size ≤ maxLen) (hk : 8 * k < s.size) :
    Calls Try.prog 31 #[.string s, .int .i64 (8 * (k : Int))] w fun e w' => e = .returned (.int .u64 (le8 (grp (bytesOf s) k))) ∧ w = w' := by
  have h := wordS_any s (8 * k) w hs hk
  have e : ((8 * k : Nat) : Int) = 8 * (k : Int) := by omega
  rw [e] at h
  exact h

end H
end Go.Proofs.Ytcgppbbpdnobfaa
