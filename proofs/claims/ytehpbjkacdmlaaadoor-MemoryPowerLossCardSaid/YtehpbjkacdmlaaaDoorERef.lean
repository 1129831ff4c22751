/-
  Contracts of the specification's functions of layer 5: Bit, power, check, Count, Syndrome, Data.
-/
import Derived.Test.YtehpbjkacdmlaaaDoorRows
import Derived.Test.YtehpbjkacdmlaaaDoorKit
import Derived.Test.YtehpbjkacdmlaaaDoorECode
import Derived.Deep.DeepCutAuto
import Derived.Deep.RegionHeld3
import Derived.Deep.LoopGhost
namespace Go.Proofs.YtehpbjkacdmlaaaDoor
open Go.RowKit
namespace E
open H
set_option linter.unusedVariables false
set_option maxRecDepth 100000

theorem u64_range {a : Int} (h : (Lit.int .u64 a).wf = true) : 0 ≤ a ∧ a < 18446744073709551616 := by
  simp [Lit.wf, IntKind.min, IntKind.max, IntKind.signed, IntKind.bits] at h
  omega
theorem halves (c k : Nat) : (c / 2 ^ k) / 2 = c / 2 ^ (k + 1) := by rw [Nat.pow_succ, Nat.div_div_eq_div_mul]
theorem half_lt {c k : Nat} (h : c < 18446744073709551616) : c / 2 ^ k < 18446744073709551616 := Nat.lt_of_le_of_lt (Nat.div_le_self _ _) h
set_option maxHeartbeats 1000000 in
theorem rbit_any (c n : Nat) (hc : c < 18446744073709551616) (hn : n ≤ 64) (w : World) :
    Calls Tryd.prog 46 #[.int .u64 c, .int .i64 n] w fun e w' => e = .returned (.int .u64 (c.testBit n).toNat) ∧ w' = w := by
  have HL := Lib.hid (fun k => half_lt (k := k) hc)
  have HN := Lib.hid hn
  clear hc hn
  go_enter Tryd.func46, Tryd.ntmps46
  go_wp2_with fail
  go_loopg [0, 5] n (fun g x i wr => ∃ k : Nat, k + g = n ∧ x = .int .u64 (c / 2 ^ k : Nat) ∧ i = .int .i64 k ∧ wr = w)
  case atStart => exact ⟨0, by omega, by rw [Nat.pow_zero, Nat.div_one], rfl, rfl⟩
  case round =>
    obtain ⟨k, hg, rfl, rfl, rfl⟩ := hrel
    have HG := Lib.hid hg
    have HS := Lib.hid (halves c k)
    have HZ := Lib.hid (bit_toNat c k)
    have hz := HL.out k
    have hk : k ≤ 64 := by have := HN.out; omega
    by_cases hlt : k < n
    · have hi : (k : Int) < (n : Int) := by omega
      clear hg
      generalize c / 2 ^ k = z at *
      clear hlt
      go_wp2_with fail
      go_roundg (gk - 1)
      case measure => have := HG.out; omega
      case rel => exact ⟨k + 1, by have := HG.out; omega, by rw [← HS.out]; rfl, by go_num, rfl⟩
    · obtain rfl : k = n := by omega
      have hi : ¬ (k : Int) < (k : Int) := by omega
      clear hg hlt
      generalize c / 2 ^ k = z at *
      go_wp2_with fail
      go_ret
      exact ⟨by rw [HZ.out]; rfl, rfl⟩
theorem pow_lt64 {k : Nat} (h : k < 64) : 2 ^ k < 18446744073709551616 := by
  have : (2 : Nat) ^ k < 2 ^ 64 := Nat.pow_lt_pow_right (by omega) h
  exact this
set_option maxHeartbeats 1000000 in
theorem rpower_any (n : Nat) (hn : n ≤ 63) (w : World) :
    Calls Tryd.prog 45 #[.int .i64 n] w fun e w' => e = .returned (.int .u64 (2 ^ n : Nat)) ∧ w' = w := by
  have HN := Lib.hid hn
  clear hn
  go_enter Tryd.func45, Tryd.ntmps45
  go_wp2_with fail
  go_loopg [3, 4] n (fun g x i wr => ∃ k : Nat, k + g = n ∧ x = .int .u64 (2 ^ k : Nat) ∧ i = .int .i64 k ∧ wr = w)
  case atStart => exact ⟨0, by omega, rfl, rfl, rfl⟩
  case round =>
    obtain ⟨k, hg, rfl, rfl, rfl⟩ := hrel
    have HG := Lib.hid hg
    have hk : k ≤ 63 := by have := HN.out; omega
    by_cases hlt : k < n
    · have hi : (k : Int) < (n : Int) := by omega
      have HP := Lib.hid (Nat.pow_succ 2 k)
      have hz : 2 ^ (k + 1) < 18446744073709551616 := pow_lt64 (by have := HN.out; omega)
      rw [HP.out] at hz
      clear hg hlt
      generalize 2 ^ k = z at *
      go_wp2_with fail
      go_roundg (gk - 1)
      case measure => have := HG.out; omega
      case rel => exact ⟨k + 1, by have := HG.out; omega, by rw [HP.out]; go_num, by go_num, rfl⟩
    · obtain rfl : k = n := by omega
      have hi : ¬ (k : Int) < (k : Int) := by omega
      clear hg hlt
      go_wp2_with fail
      go_ret
      exact ⟨rfl, rfl⟩
theorem chk_true {p : Nat} (h : p = 1 ∨ p = 2 ∨ p = 4 ∨ p = 8 ∨ p = 16 ∨ p = 32) : chk p = true := by rcases h with rfl | rfl | rfl | rfl | rfl | rfl <;> rfl
set_option maxHeartbeats 1000000 in
theorem rcheck_any (p : Nat) (w : World) :
    Calls Tryd.prog 44 #[.int .i64 p] w fun e w' => e = .returned (.bool (chk p)) ∧ w' = w := by
  by_cases h : p = 1 ∨ p = 2 ∨ p = 4 ∨ p = 8 ∨ p = 16 ∨ p = 32
  · rw [chk_true h]
    rcases h with rfl | rfl | rfl | rfl | rfl | rfl
    all_goals
      go_enter Tryd.func44, Tryd.ntmps44
      go_wp2_with fail
      go_ret
      exact ⟨rfl, rfl⟩
  · have hc : chk p = false := by unfold chk; simp; omega
    rw [hc]
    have h1 : ((p : Int) == 1) = false := by simp; omega
    have h2 : ((p : Int) == 2) = false := by simp; omega
    have h3 : ((p : Int) == 4) = false := by simp; omega
    have h4 : ((p : Int) == 8) = false := by simp; omega
    have h5 : ((p : Int) == 16) = false := by simp; omega
    have h6 : ((p : Int) == 32) = false := by simp; omega
    clear h hc
    go_enter Tryd.func44, Tryd.ntmps44
    go_wp2_with fail
    go_ret
    exact ⟨rfl, rfl⟩
set_option maxHeartbeats 1000000 in
theorem rcount_any (c n : Nat) (hc : c < 18446744073709551616) (hn : n ≤ 64) (w : World) :
    Calls Tryd.prog 47 #[.int .u64 c, .int .i64 n] w fun e w' => e = .returned (.int .i64 (cnt c n)) ∧ w' = w := by
  have HL := Lib.hid (fun k => half_lt (k := k) hc)
  have HC := Lib.hid (cnt_le c)
  have HN := Lib.hid hn
  clear hc hn
  go_enter Tryd.func47, Tryd.ntmps47
  go_wp2_with fail
  go_loopg [0, 5, 6] n (fun g x s i wr => ∃ k : Nat, k + g = n ∧ x = .int .u64 (c / 2 ^ k : Nat) ∧ s = .int .i64 (cnt c k) ∧ i = .int .i64 k ∧ wr = w)
  case atStart => exact ⟨0, by omega, by rw [Nat.pow_zero, Nat.div_one], rfl, rfl, rfl⟩
  case round =>
    obtain ⟨k, hg, rfl, rfl, rfl, rfl⟩ := hrel
    have HG := Lib.hid hg
    have HS := Lib.hid (halves c k)
    have HZ := Lib.hid (show cnt c (k + 1) = cnt c k + c / 2 ^ k % 2 by rw [← bit_toNat]; rfl)
    have hz := HL.out k
    have hs := HC.out k
    have hk : k ≤ 64 := by have := HN.out; omega
    by_cases hlt : k < n
    · have hi : (k : Int) < (n : Int) := by omega
      clear hg hlt
      generalize c / 2 ^ k = z at *
      generalize cnt c k = s at *
      go_wp2_with fail
      go_roundg (gk - 1)
      case measure => have := HG.out; omega
      case rel => exact ⟨k + 1, by have := HG.out; omega, by rw [← HS.out]; rfl, by rw [HZ.out]; go_num, by go_num, rfl⟩
    · obtain rfl : k = n := by omega
      have hi : ¬ (k : Int) < (k : Int) := by omega
      clear hg hlt
      generalize c / 2 ^ k = z at *
      go_wp2_with fail
      go_ret
      exact ⟨rfl, rfl⟩
end E
end Go.Proofs.YtehpbjkacdmlaaaDoor
