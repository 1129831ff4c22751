/-
  Contracts of the program's data, Encode and Decode of package ecc, over its table.
-/
import Derived.Test.YtnoohhpajoaaoaaDoorEProg
import Derived.Test.YtnoohhpajoaaoaaDoorEPM
import Derived.Test.YtnoohhpajoaaoaaDoorETab
import Derived.Deep.QuietTactic
import Derived.BigQuiet
namespace Go.Proofs.YtnoohhpajoaaoaaDoor
open Go.RowKit
namespace E
open H
set_option linter.unusedVariables false
set_option maxRecDepth 100000
theorem Tab.cell {w : World} (h : Tab w) {j : Nat} (hj : j < 32) : w.cell? ⟨0, j, none⟩ = some (.int .i64 ((tN j : Nat) : Int)) := by
  rw [h j hj]
  have h1 : ∀ j : Fin 32, tabL.getD j.val 0 = ((tN j.val : Nat) : Int) := by decide +kernel
  rw [h1 ⟨j, hj⟩]
theorem u32_nat {n : Nat} {x : Int} (e : x = n) (h : n < 4294967296) : IntKind.u32.wrap x = n := by rw [IntKind.wrap_u32, e]; omega
set_option maxHeartbeats 1000000 in
theorem pdata_any (c : Nat) (w : World) (tb : Tab w) :
    Calls Tryd.prog 57 #[.int .u64 c] w fun e w' => e = .returned (.int .u32 (dat c 38)) ∧ w' = w := by
  have TB := Lib.hid tb
  clear tb
  go_enter Tryd.func57, Tryd.ntmps57
  go_wp2_with fail
  go_loopg [3, 5] 32 (fun g s i wr => ∃ k : Nat, k + g = 32 ∧ s = .int .u32 (dac c k) ∧ i = .int .i64 k ∧ wr = w)
  case atStart => exact ⟨0, by omega, rfl, rfl, rfl⟩
  case round =>
    obtain ⟨k, hg, rfl, rfl, rfl⟩ := hrel
    have HG := Lib.hid hg
    have hk : k ≤ 32 := by omega
    clear hg
    by_cases hlt : k < 32
    · have hi : (k : Int) < 32 := by omega
      have hcell := TB.out.cell hlt
      have hbt := u64_bit (c := c) (k := tN k)
      have hy : (c.testBit (tN k)).toNat * 2 ^ k ≤ 1 * 2 ^ k := Nat.mul_le_mul_right _ (Bool.toNat_le _)
      have hp : 2 ^ k < 2 ^ 32 := Nat.pow_lt_pow_right (by omega) hlt
      have hd : dac c k < 2 ^ k := dac_lt c k
      have hor := u32_or_nat (dac c k) ((c.testBit (tN k)).toNat * 2 ^ k) (by omega) (by omega)
      rw [dac_or] at hor
      have hyw : IntKind.u32.wrap (((c.testBit (tN k)).toNat : Int) * 2 ^ k) = (((c.testBit (tN k)).toNat * 2 ^ k : Nat) : Int) := u32_nat (by simp) (by omega)
      have ht := tN_lt k hlt
      have hb1 : (c.testBit (tN k)).toNat ≤ 1 := Bool.toNat_le _
      generalize (c.testBit (tN k)).toNat = b at *
      generalize tN k = t at *
      generalize b * 2 ^ k = y at *
      obtain ⟨d2, hd2⟩ : ∃ d2, dac c (k + 1) = d2 := ⟨_, rfl⟩
      rw [hd2] at hor
      have HD2 := Lib.hid hd2
      clear hy hp hd hd2 hlt
      go_wp2_with fail
      go_roundg (gk - 1)
      case measure => have := HG.out; omega
      case rel => exact ⟨k + 1, by have := HG.out; omega, by rw [HD2.out], by go_num, rfl⟩
    · obtain rfl : k = 32 := by omega
      clear hlt hk
      go_wp2_with fail
      go_ret
      exact ⟨by rw [← dac_all]; rfl, rfl⟩
theorem u32_bit {c k : Nat} (h : c < 4294967296) : bits .and .u32 ((c : Int) / 2 ^ k) 1 = (((c.testBit k).toNat : Nat) : Int) := by
  have := u32_and_nat (c / 2 ^ k) 1 (Nat.lt_of_le_of_lt (Nat.div_le_self _ _) h) (by decide)
  rw [nat_mask1, ← bit_toNat] at this
  rw [← this]
  congr 1
theorem i64_bit {c k : Nat} : bits .and .i64 ((c : Int) / 2 ^ k) 1 = (((c.testBit k).toNat : Nat) : Int) := by
  have h1 : (BitVec.ofInt 64 1).toNat = 2 ^ 1 - 1 := by decide
  have key : ∀ n : Nat, (BitVec.ofInt 64 (n : Int) &&& BitVec.ofInt 64 1).toNat = n % 2 := by
    intro n
    rw [BitVec.toNat_and, BitVec.toNat_ofInt, h1, Nat.and_two_pow_sub_one_eq_mod]
    have : ((n : Int) % ((2 ^ 64 : Nat) : Int)).toNat = n % 2 ^ 64 := by omega
    rw [this]
    omega
  have e : ((c : Int) / 2 ^ k) = ((c / 2 ^ k : Nat) : Int) := by simp
  rw [e]
  show IntKind.i64.wrap ((BitVec.ofInt 64 ((c / 2 ^ k : Nat) : Int) &&& BitVec.ofInt 64 1).toNat : Nat) = _
  rw [key, bit_toNat, IntKind.wrap_i64]
  omega
theorem shl_i64 {k : Nat} (h : k < 6) : wrap64 (2 ^ k) = ((2 ^ k : Nat) : Int) := by
  have h1 : 2 ^ k < 2 ^ 6 := Nat.pow_lt_pow_right (by omega) h
  have := wrap_small (2 ^ k) (by omega)
  rw [← this]
  simp
theorem Tab.drewN {w : World} (h : Tab w) (n : Nat) : Tab (w.drewN n) := h.below h.pos (below_drewN (Below.refl _ _) n)
set_option maxHeartbeats 1000000 in
theorem penc_any (v : Nat) (hv : v < 4294967296) (w : World) (tb : Tab w) :
    Calls Tryd.prog 45 #[.int .u32 v] w fun e w' => e = .returned (.int .u64 (enc v)) ∧ ∃ n, w' = w.drewN n := by
  have TB := Lib.hid tb
  have HV := Lib.hid hv
  clear tb hv
  go_enter Tryd.func45, Tryd.ntmps45
  go_wp2_with fail
  go_loopg [3, 8] 32 (fun g s i wr => ∃ k : Nat, k + g = 32 ∧ s = .int .u64 (com v k) ∧ i = .int .i64 k ∧ ∃ n, wr = w.drewN n)
  case atStart => exact ⟨0, by omega, rfl, rfl, 0, rfl⟩
  case round =>
    obtain ⟨k, hg, rfl, rfl, hdr⟩ := hrel
    have HG := Lib.hid hg
    have HDR := Lib.hid hdr
    have hk : k ≤ 32 := by omega
    have tb2 : Tab wr := by obtain ⟨n, e⟩ := HDR.out; rw [e]; exact TB.out.drewN n
    clear hg hdr
    by_cases hlt : k < 32
    · have hi : (k : Int) < 32 := by omega
      have hcell := tb2.cell hlt
      have hbt := u32_bit (k := k) HV.out
      have ht := tN_lt k hlt
      have hy : (v.testBit k).toNat * 2 ^ tN k ≤ 1 * 2 ^ tN k := Nat.mul_le_mul_right _ (Bool.toNat_le _)
      have hp : 2 ^ tN k < 2 ^ 38 := Nat.pow_lt_pow_right (by omega) ht
      have hd : com v k < 2 ^ 38 := com_lt38 v hk
      have hor := u64_or_nat (com v k) ((v.testBit k).toNat * 2 ^ tN k) (by omega) (by omega)
      rw [com_or v k hlt] at hor
      have hyw : IntKind.u64.wrap (((v.testBit k).toNat : Int) * 2 ^ tN k) = (((v.testBit k).toNat * 2 ^ tN k : Nat) : Int) := u64_nat (by simp) (by omega)
      have hb1 : (v.testBit k).toNat ≤ 1 := Bool.toNat_le _
      generalize (v.testBit k).toNat = b at *
      have hwb : IntKind.u64.wrap (b : Int) = b := u64_nat rfl (by omega)
      generalize tN k = t at *
      generalize b * 2 ^ t = y at *
      obtain ⟨d2, hd2⟩ : ∃ d2, com v (k + 1) = d2 := ⟨_, rfl⟩
      rw [hd2] at hor
      have HD2 := Lib.hid hd2
      clear hy hp hd hd2 hlt tb2
      go_wp2_with fail
      go_quiet (fail)
      go_wp2_with fail
      go_roundg (gk - 1)
      case measure => have := HG.out; omega
      case rel => exact ⟨k + 1, by have := HG.out; omega, by rw [HD2.out], by go_num, by obtain ⟨n, e⟩ := HDR.out; exact ⟨n + nq, by rw [e, World.drewN_drewN]⟩⟩
    · obtain rfl : k = 32 := by omega
      clear hlt hk tb2
      have hx := spr_lt v 38
      have HE : Hid (enc v = cks (spr v 38).1 (syn (spr v 38).1 38) 6 + cnt (cks (spr v 38).1 (syn (spr v 38).1 38) 6) 38 % 2 * 2 ^ 38) := Lib.hid rfl
      have hfree := spr_free v
      rw [com_all]
      generalize (spr v 38).1 = x at *
      have HSY := Lib.hid (fun W => psyn_any x (by omega) W)
      have hs := syn_lt x 38 (by omega)
      generalize syn x 38 = s at *
      have HX := Lib.hid (fun j h => cks_lt (s := s) hx hfree j h)
      have HO := Lib.hid (fun j h => cks_or (c := x) (s := s) (j := j) hfree h)
      clear hx hfree
      go_wp2_with fail
      refine (HSY.out _).mono ?_
      clear HSY
      rintro r w1 ⟨rfl, rfl⟩
      go_wp2_with fail
      go_loopg [3, 25] 6 (fun g y i wx => ∃ j : Nat, j + g = 6 ∧ y = .int .u64 (cks x s j) ∧ i = .int .i64 j ∧ wx = w1)
      case atStart => exact ⟨0, by omega, rfl, rfl, rfl⟩
      case round =>
        obtain ⟨j, hg, rfl, rfl, rfl⟩ := hrel
        generalize gk = g0 at *
        have HG2 := Lib.hid hg
        have hj : j ≤ 6 := by omega
        have hcl := HX.out j hj
        clear hg
        by_cases hlt : j < 6
        · have hi : (j : Int) < 6 := by omega
          have hor := HO.out j hlt
          have hbt := i64_bit (c := s) (k := j)
          have hsh := shl_i64 hlt
          have hK1 : 2 ^ j ≤ 2 ^ 5 := Nat.pow_le_pow_right (by omega) (by omega)
          have hK0 : 0 < 2 ^ j := Nat.pow_pos (by omega)
          generalize 2 ^ j = K at *
          obtain ⟨m, rfl⟩ : ∃ m, K = m + 1 := ⟨K - 1, by omega⟩
          rw [Nat.add_sub_cancel] at hor
          have hm : wrap64 (((m + 1 : Nat) : Int) - 1) = (m : Int) := by
            have := wrap_small m (by omega)
            rw [← this]; congr 1; omega
          have hm38 : m < 38 := by omega
          have hp : 2 ^ m < 2 ^ 38 := Nat.pow_lt_pow_right (by omega) hm38
          have hy : (s.testBit j).toNat * 2 ^ m ≤ 1 * 2 ^ m := Nat.mul_le_mul_right _ (Bool.toNat_le _)
          have hyw : IntKind.u64.wrap (((s.testBit j).toNat : Int) * 2 ^ m) = (((s.testBit j).toNat * 2 ^ m : Nat) : Int) := u64_nat (by simp) (by omega)
          have hou := u64_or_nat (cks x s j) ((s.testBit j).toNat * 2 ^ m) (by omega) (by omega)
          rw [hor] at hou
          have hb1 : (s.testBit j).toNat ≤ 1 := Bool.toNat_le _
          generalize (s.testBit j).toNat = b at *
          have hwb : IntKind.u64.wrap (b : Int) = b := u64_nat rfl (by omega)
          generalize b * 2 ^ m = y at *
          obtain ⟨d2, hd2⟩ : ∃ d2, cks x s (j + 1) = d2 := ⟨_, rfl⟩
          rw [hd2] at hou
          have HD2 := Lib.hid hd2
          clear hy hp hd2 hlt hor hK1 hK0
          go_wp2_with fail
          go_roundg (g0 - 1)
          case measure => have := HG2.out; omega
          case rel => exact ⟨j + 1, by have := HG2.out; omega, by rw [HD2.out], by go_num, rfl⟩
        · obtain rfl : j = 6 := by omega
          clear hlt hj
          have HOD := Lib.hid (fun W => podd_any (cks x s 6) (by omega) W)
          rw [show cnt (cks x s 6) 64 = cnt (cks x s 6) 38 from cnt_app hcl (by omega)] at HOD
          have hor : cks x s 6 ||| 274877906944 = cks x s 6 + 274877906944 := by have := or_add (b := 1) hcl; rwa [Nat.one_mul] at this
          have hou := u64_or_nat (cks x s 6) 274877906944 (by omega) (by omega)
          rw [hor] at hou
          generalize cks x s 6 = d at *
          by_cases ho : cnt d 38 % 2 = 1
          · rw [show (cnt d 38 % 2 == 1) = true by simp [ho]] at HOD
            rw [ho] at HE
            have hou2 : bits .or .u64 (d : Int) 274877906944 = ((d + 274877906944 : Nat) : Int) := hou
            have HE2 : Hid (enc v = d + 274877906944) := Lib.hid HE.out
            generalize d + 274877906944 = d2 at *
            clear ho hor hou hcl
            go_wp2_with fail
            refine (HOD.out _).mono ?_
            clear HOD
            rintro r w1 ⟨rfl, rfl⟩
            go_wp2_with fail
            go_ret
            exact ⟨by rw [HE2.out]; rfl, HDR.out⟩
          · rw [show (cnt d 38 % 2 == 1) = false by simp [ho]] at HOD
            have h0 : cnt d 38 % 2 = 0 := by omega
            rw [h0] at HE
            have HE2 : Hid (enc v = d) := Lib.hid (by rw [HE.out]; omega)
            clear ho h0 hor hou hcl
            go_wp2_with fail
            refine (HOD.out _).mono ?_
            clear HOD
            rintro r w1 ⟨rfl, rfl⟩
            go_wp2_with fail
            go_ret
            exact ⟨by rw [HE2.out]; rfl, HDR.out⟩
theorem shr39 {c : Nat} : ((c : Int) / 549755813888 != 0) = decide (2 ^ 39 ≤ c) := by
  rw [Bool.eq_iff_iff]
  simp
  omega
set_option maxHeartbeats 1000000 in
theorem pdec_any (c : Nat) (hc : c < 18446744073709551616) (w : World) (tb : Tab w) :
    Calls Tryd.prog 44 #[.int .u64 c] w fun e w' => e = .returned (.tuple #[.int .u32 (dec c).1, .int .i64 (dec c).2]) ∧ w' = w := by
  have HSY := Lib.hid (psyn_any c hc w)
  have HOD := Lib.hid (podd_any c hc w)
  have HDA := Lib.hid (pdata_any c w tb)
  have hsl := syn_lt c 38 (by omega)
  have h39 := shr39 (c := c)
  by_cases h1 : 2 ^ 39 ≤ c
  · rw [dec_high h1]
    rw [decide_eq_true h1] at h39
    clear h1 hc tb
    generalize syn c 38 = s at *
    generalize (cnt c 64 % 2 == 1) = o at *
    go_enter Tryd.func44, Tryd.ntmps44
    go_wp2_with fail
    refine HSY.out.mono ?_
    rintro r w1 ⟨rfl, rfl⟩
    go_wp2_with fail
    refine HOD.out.mono ?_
    rintro r w1 ⟨rfl, rfl⟩
    go_wp2_with fail
    go_ret2
    exact ⟨rfl, rfl⟩
  · rw [decide_eq_false h1] at h39
    have hcl : cnt c 64 = cnt c 39 := cnt_app (Nat.lt_of_not_le h1) (by omega)
    rw [hcl] at HOD
    by_cases h2 : cnt c 39 % 2 = 0
    · rw [show (cnt c 39 % 2 == 1) = false by simp [h2]] at HOD
      by_cases h3 : syn c 38 = 0
      · have hd : dec c = (dat c 38, 0) := by unfold dec; rw [if_neg h1, if_pos h2, if_pos h3]
        rw [hd]
        rw [h3] at HSY
        clear h1 h2 h3 hc tb hcl hd hsl
        go_enter Tryd.func44, Tryd.ntmps44
        go_wp2_with fail
        refine HSY.out.mono ?_
        rintro r w1 ⟨rfl, rfl⟩
        go_wp2_with fail
        refine HOD.out.mono ?_
        rintro r w1 ⟨rfl, rfl⟩
        go_wp2_with fail
        refine HDA.out.mono ?_
        rintro r w1 ⟨rfl, rfl⟩
        go_wp2_with fail
        go_ret2
        exact ⟨rfl, rfl⟩
      · have hd : dec c = (0, 2) := by unfold dec; rw [if_neg h1, if_pos h2, if_neg h3]
        rw [hd]
        have h3i : (((syn c 38 : Nat) : Int) == 0) = false := by simp; omega
        clear h1 h2 h3 hc tb hcl hd
        generalize syn c 38 = s at *
        go_enter Tryd.func44, Tryd.ntmps44
        go_wp2_with fail
        refine HSY.out.mono ?_
        rintro r w1 ⟨rfl, rfl⟩
        go_wp2_with fail
        refine HOD.out.mono ?_
        rintro r w1 ⟨rfl, rfl⟩
        go_wp2_with fail
        go_ret2
        exact ⟨rfl, rfl⟩
    · rw [show (cnt c 39 % 2 == 1) = true by simp; omega] at HOD
      by_cases h3 : 38 < syn c 38
      · have hd : dec c = (0, 2) := by unfold dec; rw [if_neg h1, if_neg h2, if_pos h3]
        rw [hd]
        have h3i : 38 < ((syn c 38 : Nat) : Int) := by omega
        clear h1 h2 h3 hc tb hcl hd
        generalize syn c 38 = s at *
        go_enter Tryd.func44, Tryd.ntmps44
        go_wp2_with fail
        refine HSY.out.mono ?_
        rintro r w1 ⟨rfl, rfl⟩
        go_wp2_with fail
        refine HOD.out.mono ?_
        rintro r w1 ⟨rfl, rfl⟩
        go_wp2_with fail
        go_ret2
        exact ⟨rfl, rfl⟩
      · have hf : dec c = (dat (flip c ((syn c 38 : Nat) - 1 : Int)) 38, 1) := by
          unfold dec
          rw [if_neg h1, if_neg h2, if_neg h3]
          by_cases h4 : syn c 38 = 0
          · rw [if_pos h4, h4]; rfl
          · rw [if_neg h4]
            have := flip_in c (b := syn c 38 - 1) (by omega)
            rw [← this, show (((syn c 38 - 1 : Nat)) : Int) = ((syn c 38 : Nat) : Int) - 1 by omega]
        rw [hf]
        have hfl := flip_lt hc ((syn c 38 : Nat) - 1 : Int)
        have HFL := Lib.hid (pflip_any c ((syn c 38 : Nat) - 1 : Int) hc w)
        have HDF := Lib.hid (pdata_any (flip c ((syn c 38 : Nat) - 1 : Int)) w tb)
        have h3i : ¬ 38 < ((syn c 38 : Nat) : Int) := by omega
        clear h1 h2 h3 hc tb hcl hf hfl
        generalize flip c ((syn c 38 : Nat) - 1 : Int) = d at *
        generalize syn c 38 = s at *
        go_enter Tryd.func44, Tryd.ntmps44
        go_wp2_with fail
        refine HSY.out.mono ?_
        rintro r w1 ⟨rfl, rfl⟩
        go_wp2_with fail
        refine HOD.out.mono ?_
        rintro r w1 ⟨rfl, rfl⟩
        go_wp2_with fail
        refine HFL.out.mono ?_
        rintro r w1 ⟨rfl, rfl⟩
        go_wp2_with fail
        refine HDF.out.mono ?_
        rintro r w1 ⟨rfl, rfl⟩
        go_wp2_with fail
        go_ret2
        exact ⟨rfl, rfl⟩
end E
end Go.Proofs.YtnoohhpajoaaoaaDoor
