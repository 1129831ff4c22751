/-
  Contracts of the program's package ecc: OnesCount64, syndrome, hasOddCount, Flip, Distance.
-/
import Derived.Test.YtnoohhpajoaaoaaDoorERef3
import Derived.Test.YtnoohhpajoaaoaaDoorPop
namespace Go.Proofs.YtnoohhpajoaaoaaDoor
open Go.RowKit
namespace E
open H
set_option linter.unusedVariables false
set_option maxRecDepth 100000
theorem rep85 : rep 85 8 = 6148914691236517205 := by decide
theorem rep51 : rep 51 8 = 3689348814741910323 := by decide
theorem rep15 : rep 15 8 = 1085102592571150095 := by decide
theorem u64_nat {n : Nat} {x : Int} (e : x = n) (h : n < 18446744073709551616) : IntKind.u64.wrap x = n := by rw [IntKind.wrap_u64, e]; omega
theorem i64_and127 (n : Int) : bits .and .i64 n 127 = n % 128 := by
  have h1 : (BitVec.ofInt 64 127).toNat = 2 ^ 7 - 1 := by decide
  have key : (BitVec.ofInt 64 n &&& BitVec.ofInt 64 127).toNat = (n % ((2 ^ 64 : Nat) : Int)).toNat % 2 ^ 7 := by
    rw [BitVec.toNat_and, BitVec.toNat_ofInt, h1, Nat.and_two_pow_sub_one_eq_mod]
  show IntKind.i64.wrap ((BitVec.ofInt 64 n &&& BitVec.ofInt 64 127).toNat : Nat) = n % 128
  rw [key, IntKind.wrap_i64]
  omega
theorem wrap_small (z : Nat) (h : z < 9223372036854775808) : wrap64 (z : Int) = z := by unfold wrap64; omega
/-- What the steps of the count are called. -/
structure Pop (c a b y1 a2 b2 y2 s3 y3 y4 y5 y6 : Nat) : Prop where
  h1 : bits .and .u64 ((c : Int) / 2) 6148914691236517205 = (a : Int)
  h2 : bits .and .u64 (c : Int) 6148914691236517205 = (b : Int)
  w1 : IntKind.u64.wrap ((a : Int) + (b : Int)) = (y1 : Int)
  h3 : bits .and .u64 ((y1 : Int) / 4) 3689348814741910323 = (a2 : Int)
  h4 : bits .and .u64 (y1 : Int) 3689348814741910323 = (b2 : Int)
  w2 : IntKind.u64.wrap ((a2 : Int) + (b2 : Int)) = (y2 : Int)
  w3 : IntKind.u64.wrap ((y2 : Int) / 16 + (y2 : Int)) = (s3 : Int)
  h5 : bits .and .u64 (s3 : Int) 1085102592571150095 = (y3 : Int)
  w4 : IntKind.u64.wrap ((y3 : Int) + (y3 : Int) / 256) = (y4 : Int)
  w5 : IntKind.u64.wrap ((y4 : Int) + (y4 : Int) / 65536) = (y5 : Int)
  w6 : IntKind.u64.wrap ((y5 : Int) + (y5 : Int) / 4294967296) = (y6 : Int)
  h6 : bits .and .i64 (wrap64 (y6 : Int)) 127 = (cnt c 64 : Int)
theorem pop_steps (c : Nat) (hc : c < 18446744073709551616) : ∃ a b y1 a2 b2 y2 s3 y3 y4 y5 y6 : Nat, Pop c a b y1 a2 b2 y2 s3 y3 y4 y5 y6 := by
  have r85 : rep 85 8 = 6148914691236517205 := by decide
  have r51 : rep 51 8 = 3689348814741910323 := by decide
  have r15 : rep 15 8 = 1085102592571150095 := by decide
  obtain ⟨g1, g2, g3⟩ := pop_all c hc
  have la : c / 2 ^ 1 &&& rep 85 8 ≤ rep 85 8 := Nat.and_le_right
  have lb : c &&& rep 85 8 ≤ rep 85 8 := Nat.and_le_right
  have e1 : pop1 (rep 85 8) c = (c / 2 ^ 1 &&& rep 85 8) + (c &&& rep 85 8) := rfl
  have e8 : pops 8 c = pop4 (rep 15 8) (pop2 (rep 51 8) (pop1 (rep 85 8) c)) := rfl
  generalize pop1 (rep 85 8) c = y1 at *
  have la2 : y1 / 2 ^ 2 &&& rep 51 8 ≤ rep 51 8 := Nat.and_le_right
  have lb2 : y1 &&& rep 51 8 ≤ rep 51 8 := Nat.and_le_right
  have e2 : pop2 (rep 51 8) y1 = (y1 / 2 ^ 2 &&& rep 51 8) + (y1 &&& rep 51 8) := rfl
  generalize pop2 (rep 51 8) y1 = y2 at *
  have e4 : pop4 (rep 15 8) y2 = (y2 / 2 ^ 4 + y2) &&& rep 15 8 := rfl
  have l15 : (y2 / 2 ^ 4 + y2) &&& rep 15 8 ≤ rep 15 8 := Nat.and_le_right
  rw [e4] at e8
  have hy1 : y1 < 18446744073709551616 := by omega
  have hy2 : y2 ≤ 2 * 3689348814741910323 := by omega
  have hs3 : y2 / 16 + y2 < 18446744073709551616 := by omega
  have d1 := u64_and_nat (c / 2 ^ 1) (rep 85 8) (by omega) (by omega)
  have d2 := u64_and_nat c (rep 85 8) hc (by omega)
  have d3 := u64_and_nat (y1 / 2 ^ 2) (rep 51 8) (by omega) (by omega)
  have d4 := u64_and_nat y1 (rep 51 8) hy1 (by omega)
  have d5 := u64_and_nat (y2 / 2 ^ 4 + y2) (rep 15 8) (by omega) (by omega)
  rw [← e8] at d5 l15
  rw [r85] at d1 d2 la lb
  rw [r51] at d3 d4 la2 lb2
  rw [r15] at d5
  rw [r85] at e1
  rw [r51] at e2
  generalize pops 8 c = y3 at *
  generalize c / 2 ^ 1 &&& 6148914691236517205 = a at *
  generalize c &&& 6148914691236517205 = b at *
  generalize y1 / 2 ^ 2 &&& 3689348814741910323 = a2 at *
  generalize y1 &&& 3689348814741910323 = b2 at *
  refine ⟨a, b, y1, a2, b2, y2, y2 / 16 + y2, y3, y3 + y3 / 256, _, _, ⟨d1, d2, u64_nat (by omega) hy1, d3, d4, u64_nat (by omega) (by omega), u64_nat (by omega) hs3, d5, u64_nat (by omega) (by omega), u64_nat (n := y3 + y3 / 256 + (y3 + y3 / 256) / 65536) (by omega) (by omega),
    u64_nat (n := y3 + y3 / 256 + (y3 + y3 / 256) / 65536 + (y3 + y3 / 256 + (y3 + y3 / 256) / 65536) / 4294967296) (by omega) (by omega), ?_⟩⟩
  rw [wrap_small _ (by omega), i64_and127, ← g3]
  rfl
set_option maxHeartbeats 1000000 in
theorem pones_any (c : Nat) (hc : c < 18446744073709551616) (w : World) :
    Calls Tryd.prog 60 #[.int .u64 c] w fun e w' => e = .returned (.int .i64 (cnt c 64)) ∧ w' = w := by
  obtain ⟨a, b, y1, a2, b2, y2, s3, y3, y4, y5, y6, ⟨h1, h2, w1, h3, h4, w2, w3, h5, w4, w5, w6, h6⟩⟩ := pop_steps c hc
  clear hc
  go_enter Tryd.func60, Tryd.ntmps60
  go_wp2_with fail
  go_ret
  exact ⟨rfl, rfl⟩
set_option maxHeartbeats 1000000 in
theorem podd_any (c : Nat) (hc : c < 18446744073709551616) (w : World) :
    Calls Tryd.prog 56 #[.int .u64 c] w fun e w' => e = .returned (.bool (cnt c 64 % 2 == 1)) ∧ w' = w := by
  have H := Lib.hid (pones_any c hc w)
  have hl := cnt_le c 64
  clear hc
  have hb : ((cnt c 64 : Int) % 2 == 1) = (cnt c 64 % 2 == 1) := by
    rw [Bool.eq_iff_iff]; simp; omega
  have HB := Lib.hid hb
  clear hb
  generalize cnt c 64 = n at *
  go_enter Tryd.func56, Tryd.ntmps56
  go_wp2_with fail
  refine H.out.mono ?_
  rintro r w1 ⟨rfl, rfl⟩
  go_wp2_with fail
  go_ret
  exact ⟨by rw [← HB.out]; rfl, rfl⟩
theorem u64_and_one {u : Nat} : bits .and .u64 (u : Int) 1 = ((u % 2 : Nat) : Int) := by
  have h1 : (BitVec.ofInt 64 1).toNat = 2 ^ 1 - 1 := by decide
  have key : (BitVec.ofInt 64 (u : Int) &&& BitVec.ofInt 64 1).toNat = u % 2 := by
    rw [BitVec.toNat_and, BitVec.toNat_ofInt, h1, Nat.and_two_pow_sub_one_eq_mod]
    have : ((u : Int) % ((2 ^ 64 : Nat) : Int)).toNat = u % 2 ^ 64 := by omega
    rw [this]
    omega
  show IntKind.u64.wrap ((BitVec.ofInt 64 (u : Int) &&& BitVec.ofInt 64 1).toNat : Nat) = _
  rw [key, IntKind.wrap_u64]
  omega
theorem u64_bit {c k : Nat} : bits .and .u64 ((c : Int) / 2 ^ k) 1 = (((c.testBit k).toNat : Nat) : Int) := by
  rw [bit_toNat, ← u64_and_one]
  congr 1
set_option maxHeartbeats 1000000 in
theorem psyn_any (c : Nat) (hc : c < 18446744073709551616) (w : World) :
    Calls Tryd.prog 55 #[.int .u64 c] w fun e w' => e = .returned (.int .i64 (syn c 38)) ∧ w' = w := by
  have HL := Lib.hid (fun n hn => syn_lt c n hn)
  clear hc
  go_enter Tryd.func55, Tryd.ntmps55
  go_wp2_with fail
  go_loopg [3, 5] 38 (fun g s i wr => ∃ k : Nat, k + g = 38 ∧ s = .int .i64 (syn c k) ∧ i = .int .i64 k ∧ wr = w)
  case atStart => exact ⟨0, by omega, rfl, rfl, rfl⟩
  case round =>
    obtain ⟨k, hg, rfl, rfl, rfl⟩ := hrel
    have HG := Lib.hid hg
    have hk38 : k ≤ 38 := by omega
    clear hg
    by_cases hlt : k < 38
    · have hi : (k : Int) < 38 := by omega
      have HX := Lib.hid (i64_xor (a := syn c k) (b := k + 1) (HL.out k (by omega)) (by omega))
      have HLT := Lib.hid hlt
      have hbt := u64_bit (c := c) (k := k)
      clear hlt
      cases hb : c.testBit k with
      | true =>
        have HS := Lib.hid (show syn c (k + 1) = syn c k ^^^ (k + 1) by rw [syn, hb]; rfl)
        rw [hb] at hbt
        clear hb
        go_wp2_with fail
        go_roundg (gk - 1)
        case measure => have := HG.out; have := HLT.out; omega
        case rel => exact ⟨k + 1, by have := HG.out; have := HLT.out; omega, by rw [HS.out, ← HX.out]; rfl, by go_num, rfl⟩
      | false =>
        have HS := Lib.hid (syn_step_false hb)
        rw [hb] at hbt
        clear hb
        go_wp2_with fail
        go_roundg (gk - 1)
        case measure => have := HG.out; have := HLT.out; omega
        case rel => exact ⟨k + 1, by have := HG.out; have := HLT.out; omega, by rw [HS.out], by go_num, rfl⟩
    · obtain rfl : k = 38 := by omega
      clear hlt hk38
      go_wp2_with fail
      go_ret
      exact ⟨rfl, rfl⟩
theorem shl_one {b : Nat} (h : b < 64) : IntKind.u64.wrap (2 ^ b) = ((2 ^ b : Nat) : Int) := by
  exact u64_nat (by simp) (pow_lt64 h)
set_option maxHeartbeats 1000000 in
theorem pflip_any (c : Nat) (b : Int) (hc : c < 18446744073709551616) (w : World) :
    Calls Tryd.prog 42 #[.int .u64 c, .int .i64 b] w fun e w' => e = .returned (.int .u64 (flip c b : Nat)) ∧ w' = w := by
  by_cases h0 : b < 0
  · have hf : flip c b = c := by unfold flip; rw [if_pos (Or.inl h0)]
    rw [hf]
    clear hf
    go_enter Tryd.func42, Tryd.ntmps42
    go_wp2_with fail
    go_ret
    exact ⟨rfl, rfl⟩
  · by_cases h1 : 64 ≤ b
    · have hf : flip c b = c := by unfold flip; rw [if_pos (Or.inr (by omega))]
      rw [hf]
      clear hf
      go_enter Tryd.func42, Tryd.ntmps42
      go_wp2_with fail
      go_ret
      exact ⟨rfl, rfl⟩
    · obtain ⟨n, rfl⟩ : ∃ n : Nat, b = n := ⟨b.toNat, by omega⟩
      have hn : n < 64 := by omega
      rw [flip_in c hn]
      have hs := shl_one hn
      have HX := Lib.hid (u64_xor_nat c (2 ^ n) hc (pow_lt64 hn))
      generalize 2 ^ n = z at *
      clear hc
      go_enter Tryd.func42, Tryd.ntmps42
      go_wp2_with fail
      go_ret
      exact ⟨by rw [← HX.out]; rfl, rfl⟩
end E
end Go.Proofs.YtnoohhpajoaaoaaDoor
