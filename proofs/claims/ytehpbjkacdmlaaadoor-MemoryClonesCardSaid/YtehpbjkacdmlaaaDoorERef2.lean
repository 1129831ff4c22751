/-
  Contracts of the specification's Syndrome, Data, Flip, Distance.
-/
import Derived.Test.YtehpbjkacdmlaaaDoorERef
import Derived.Laws.BitsAllLaws
namespace Go.Proofs.YtehpbjkacdmlaaaDoor
open Go.RowKit
namespace E
open H
set_option linter.unusedVariables false
set_option maxRecDepth 100000
theorem i64_xor {a b : Nat} (ha : a < 64) (hb : b < 64) : bits .xor .i64 (a : Int) (b : Int) = ((a ^^^ b : Nat) : Int) := by
  have hx : a ^^^ b < 2 ^ 6 := Nat.xor_lt_two_pow (n := 6) ha hb
  show IntKind.i64.wrap ((BitVec.ofInt 64 (a : Int) ^^^ BitVec.ofInt 64 (b : Int)).toNat : Int) = _
  rw [BitVec.toNat_xor, ofInt_u64 a (by omega), ofInt_u64 b (by omega)]
  generalize a ^^^ b = x at *
  simp [IntKind.wrap, IntKind.bits, IntKind.signed]
  omega
set_option maxHeartbeats 1000000 in
theorem rsyn_any (c : Nat) (hc : c < 18446744073709551616) (w : World) :
    Calls Tryd.prog 52 #[.int .u64 c] w fun e w' => e = .returned (.int .i64 (syn c 38)) ∧ w' = w := by
  have HB := Lib.hid (fun n hn W => rbit_any c n hc hn W)
  have HL := Lib.hid (fun n hn => syn_lt c n hn)
  clear hc
  go_enter Tryd.func52, Tryd.ntmps52
  go_wp2_with fail
  go_loopg [3, 4] 38 (fun g s i wr => ∃ k : Nat, k + g = 38 ∧ s = .int .i64 (syn c k) ∧ i = .int .i64 ((k : Int) + 1) ∧ wr = w)
  case atStart => exact ⟨0, by omega, rfl, rfl, rfl⟩
  case round =>
    obtain ⟨k, hg, rfl, rfl, rfl⟩ := hrel
    have HG := Lib.hid hg
    have hk38 : k ≤ 38 := by omega
    clear hg
    by_cases hlt : k < 38
    · have hi : (k : Int) + 1 ≤ 38 := by omega
      have HX := Lib.hid (i64_xor (a := syn c k) (b := k + 1) (HL.out k (by omega)) (by omega))
      have HLT := Lib.hid hlt
      clear hlt
      cases hb : c.testBit k with
      | true =>
        have HS := Lib.hid (show syn c (k + 1) = syn c k ^^^ (k + 1) by rw [syn, hb]; rfl)
        go_wp2_with fail
        refine (HB.out k (by omega) _).mono ?_
        rw [hb]
        rintro r w1 ⟨rfl, rfl⟩
        go_wp2_with fail
        go_roundg (gk - 1)
        case measure => have := HG.out; have := HLT.out; omega
        case rel => exact ⟨k + 1, by have := HG.out; have := HLT.out; omega, by rw [HS.out, ← HX.out]; rfl, by go_num, rfl⟩
      | false =>
        have HS := Lib.hid (syn_step_false hb)
        go_wp2_with fail
        refine (HB.out k (by omega) _).mono ?_
        rw [hb]
        rintro r w1 ⟨rfl, rfl⟩
        go_wp2_with fail
        go_roundg (gk - 1)
        case measure => have := HG.out; have := HLT.out; omega
        case rel => exact ⟨k + 1, by have := HG.out; have := HLT.out; omega, by rw [HS.out], by go_num, rfl⟩
    · obtain rfl : k = 38 := by omega
      clear hlt hk38
      go_wp2_with fail
      go_ret
      exact ⟨rfl, rfl⟩
theorem dat_step (c : Nat) {m k : Nat} (h : k + m = 37) : dat c (k + 1) = if chk (m + 1) then dat c k else 2 * dat c k + (c.testBit m).toNat := by
  have e1 : 38 - k = m + 1 := by omega
  have e2 : 37 - k = m := by omega
  rw [dat, e1, e2]
set_option maxHeartbeats 1000000 in
theorem rdata_any (c : Nat) (hc : c < 18446744073709551616) (w : World) :
    Calls Tryd.prog 53 #[.int .u64 c] w fun e w' => e = .returned (.int .u32 (dat c 38)) ∧ w' = w := by
  have HB := Lib.hid (fun n hn W => rbit_any c n hc hn W)
  clear hc
  have hdn : ∀ k, k ≤ 38 → dat c k < 4294967296 := fun k hk => Nat.lt_of_lt_of_le (dat_lt c k) (by
    have h : ∀ k : Fin 39, 2 ^ dn k.val ≤ 4294967296 := by decide +kernel
    exact h ⟨k, by omega⟩)
  have HD := Lib.hid hdn
  clear hdn
  go_enter Tryd.func53, Tryd.ntmps53
  go_wp2_with fail
  go_loopg [3, 4] 38 (fun g s i wr => ∃ k : Nat, k + g = 38 ∧ s = .int .u32 (dat c k) ∧ i = .int .i64 (g : Nat) ∧ wr = w)
  case atStart => exact ⟨0, by omega, rfl, rfl, rfl⟩
  case round =>
    obtain ⟨k, hg, rfl, rfl, rfl⟩ := hrel
    by_cases hlt : k < 38
    · obtain ⟨m, rfl⟩ : ∃ m, gk = m + 1 := ⟨gk - 1, by omega⟩
      have hm : m ≤ 37 := by omega
      have hd := HD.out k (by omega)
      have hd2 := HD.out (k + 1) (by omega)
      have hs := dat_step c (show k + m = 37 by omega)
      have HK := Lib.hid hg
      have HKK := Lib.hid (rcheck_any (m + 1))
      have HBB := Lib.hid (HB.out m (by omega))
      clear hlt hg
      generalize dat c k = d at *
      obtain ⟨d2, hd2e⟩ : ∃ d2, dat c (k + 1) = d2 := ⟨_, rfl⟩
      rw [hd2e] at hd2 hs
      have HS0 := Lib.hid hd2e
      clear hd2e
      cases hc : chk (m + 1) with
      | true =>
        rw [hc] at hs HKK
        have hs : d2 = d := hs
        have HS := Lib.hid hs
        clear hc hs
        go_wp2_with fail
        refine (HKK.out _).mono ?_
        rintro r w1 ⟨rfl, rfl⟩
        go_wp2_with fail
        go_roundg m
        case measure => omega
        case rel => exact ⟨k + 1, by have := HK.out; omega, by rw [HS0.out, HS.out], by go_num, rfl⟩
      | false =>
        rw [hc] at hs HKK
        have hs : d2 = 2 * d + (c.testBit m).toNat := hs
        have HS := Lib.hid hs
        clear hc hs
        cases hb : c.testBit m with
        | true =>
          rw [hb] at HS HBB
          have hs2 : d2 = 2 * d + 1 := HS.out
          go_wp2_with fail
          refine (HKK.out _).mono ?_
          rintro r w1 ⟨rfl, rfl⟩
          go_wp2_with fail
          refine (HBB.out _).mono ?_
          rintro r w1 ⟨rfl, rfl⟩
          go_wp2_with fail
          go_roundg m
          case measure => omega
          case rel => exact ⟨k + 1, by have := HK.out; omega, by rw [HS0.out]; go_num, by go_num, rfl⟩
        | false =>
          rw [hb] at HS HBB
          have hs2 : d2 = 2 * d + 0 := HS.out
          go_wp2_with fail
          refine (HKK.out _).mono ?_
          rintro r w1 ⟨rfl, rfl⟩
          go_wp2_with fail
          refine (HBB.out _).mono ?_
          rintro r w1 ⟨rfl, rfl⟩
          go_wp2_with fail
          go_roundg m
          case measure => omega
          case rel => exact ⟨k + 1, by have := HK.out; omega, by rw [HS0.out]; go_num, by go_num, rfl⟩
    · obtain rfl : k = 38 := by omega
      obtain rfl : gk = 0 := by omega
      clear hlt hg
      go_wp2_with fail
      go_ret
      exact ⟨rfl, rfl⟩
theorem flip_set {c b : Nat} (hb : b < 64) (h : c.testBit b = true) : flip c b = c - 2 ^ b := by rw [flip_in c hb, xor_eq_sub h]
theorem flip_clear {c b : Nat} (hb : b < 64) (h : c.testBit b = false) : flip c b = c + 2 ^ b := by rw [flip_in c hb, xor_eq_add b c h]
set_option maxHeartbeats 1000000 in
theorem rflip_any (c : Nat) (b : Int) (hc : c < 18446744073709551616) (w : World) :
    Calls Tryd.prog 49 #[.int .u64 c, .int .i64 b] w fun e w' => e = .returned (.int .u64 (flip c b : Nat)) ∧ w' = w := by
  by_cases h0 : b < 0
  · have hf : flip c b = c := by unfold flip; rw [if_pos (Or.inl h0)]
    rw [hf]
    clear hf
    go_enter Tryd.func49, Tryd.ntmps49
    go_wp2_with fail
    go_ret
    exact ⟨rfl, rfl⟩
  · by_cases h1 : 63 < b
    · have hf : flip c b = c := by unfold flip; rw [if_pos (Or.inr h1)]
      rw [hf]
      clear hf
      go_enter Tryd.func49, Tryd.ntmps49
      go_wp2_with fail
      go_ret
      exact ⟨rfl, rfl⟩
    · obtain ⟨n, rfl⟩ : ∃ n : Nat, b = n := ⟨b.toNat, by omega⟩
      have hn : n < 64 := by omega
      have HB := Lib.hid (fun W => rbit_any c n hc (by omega) W)
      have HP := Lib.hid (fun W => rpower_any n (by omega) W)
      have hfl := flip_lt hc n
      cases hb : c.testBit n with
      | true =>
        have hf := flip_set hn hb
        have hle : 2 ^ n ≤ c := by
          by_cases h : 2 ^ n ≤ c
          · exact h
          · rw [Nat.testBit_lt_two_pow (by omega)] at hb; cases hb
        rw [hb] at HB
        rw [hf]
        rw [hf] at hfl
        generalize 2 ^ n = z at *
        clear hf hb
        go_enter Tryd.func49, Tryd.ntmps49
        go_wp2_with fail
        refine (HB.out _).mono ?_
        rintro r w1 ⟨rfl, rfl⟩
        go_wp2_with fail
        refine (HP.out _).mono ?_
        rintro r w1 ⟨rfl, rfl⟩
        go_wp2_with fail
        go_ret
        exact ⟨by go_num, rfl⟩
      | false =>
        have hf := flip_clear hn hb
        rw [hb] at HB
        rw [hf]
        rw [hf] at hfl
        generalize 2 ^ n = z at *
        clear hf hb
        go_enter Tryd.func49, Tryd.ntmps49
        go_wp2_with fail
        refine (HB.out _).mono ?_
        rintro r w1 ⟨rfl, rfl⟩
        go_wp2_with fail
        refine (HP.out _).mono ?_
        rintro r w1 ⟨rfl, rfl⟩
        go_wp2_with fail
        go_ret
        exact ⟨by go_num, rfl⟩
theorem dist_step (a b k : Nat) : cnt (a ^^^ b) (k + 1) = cnt (a ^^^ b) k + (if a / 2 ^ k % 2 = b / 2 ^ k % 2 then 0 else 1) := by
  rw [cnt, Nat.testBit_xor, ← bit_toNat, ← bit_toNat]
  cases a.testBit k <;> cases b.testBit k <;> rfl
end E
end Go.Proofs.YtehpbjkacdmlaaaDoor
