/-
  Contracts of the specification's Encode and Decode.
-/
import Derived.Test.YtehpbjkacdmlaaaDoorERef2
namespace Go.Proofs.YtehpbjkacdmlaaaDoor
open Go.RowKit
namespace E
open H
set_option linter.unusedVariables false
set_option maxRecDepth 100000
set_option maxHeartbeats 1000000 in
theorem rdec_any (c : Nat) (hc : c < 18446744073709551616) (w : World) :
    Calls Tryd.prog 48 #[.int .u64 c] w fun e w' => e = .returned (.tuple #[.int .u32 (dec c).1, .int .i64 (dec c).2]) ∧ w' = w := by
  have HSY := Lib.hid (fun W => rsyn_any c hc W)
  have HPW := Lib.hid (fun W => rpower_any 39 (by omega) W)
  have HCN := Lib.hid (fun W => rcount_any c 39 hc (by omega) W)
  have HDA := Lib.hid (fun W => rdata_any c hc W)
  have hcl := cnt_le c 39
  have hsl := syn_lt c 38 (by omega)
  have hC := HCN
  by_cases h1 : 2 ^ 39 ≤ c
  · rw [dec_high h1]
    generalize (2 : Nat) ^ 39 = P at HPW h1
    have h1i : (P : Int) ≤ (c : Int) := by omega
    clear h1 hC hc
    generalize syn c 38 = s at *
    go_enter Tryd.func48, Tryd.ntmps48
    go_wp2_with fail
    refine (HSY.out _).mono ?_
    rintro r w1 ⟨rfl, rfl⟩
    go_wp2_with fail
    refine (HPW.out _).mono ?_
    rintro r w1 ⟨rfl, rfl⟩
    go_wp2_with fail
    go_ret2
    exact ⟨rfl, rfl⟩
  · by_cases h2 : cnt c 39 % 2 = 0
    · by_cases h3 : syn c 38 = 0
      · have hd : dec c = (dat c 38, 0) := by unfold dec; rw [if_neg h1, if_pos h2, if_pos h3]
        rw [hd]
        rw [h3] at HSY
        have h2i : ((cnt c 39 : Nat) : Int) % 2 = 0 := by omega
        generalize (2 : Nat) ^ 39 = P at HPW h1
        have h1i : ¬ (P : Int) ≤ (c : Int) := by omega
        clear h1 h3 hd hsl h2 hc hC
        generalize cnt c 39 = n at *
        go_enter Tryd.func48, Tryd.ntmps48
        go_wp2_with fail
        refine (HSY.out _).mono ?_
        rintro r w1 ⟨rfl, rfl⟩
        go_wp2_with fail
        refine (HPW.out _).mono ?_
        rintro r w1 ⟨rfl, rfl⟩
        go_wp2_with fail
        refine (HCN.out _).mono ?_
        rintro r w1 ⟨rfl, rfl⟩
        go_wp2_with fail
        refine (HDA.out _).mono ?_
        rintro r w1 ⟨rfl, rfl⟩
        go_wp2_with fail
        go_ret2
        exact ⟨rfl, rfl⟩
      · have hd : dec c = (0, 2) := by unfold dec; rw [if_neg h1, if_pos h2, if_neg h3]
        rw [hd]
        have h2i : ((cnt c 39 : Nat) : Int) % 2 = 0 := by omega
        have h3i : ((syn c 38 : Nat) : Int) ≠ 0 := by omega
        generalize (2 : Nat) ^ 39 = P at HPW h1
        have h1i : ¬ (P : Int) ≤ (c : Int) := by omega
        clear h1 h3 hd h2 hc hC
        generalize cnt c 39 = n at *
        generalize syn c 38 = s at *
        go_enter Tryd.func48, Tryd.ntmps48
        go_wp2_with fail
        refine (HSY.out _).mono ?_
        rintro r w1 ⟨rfl, rfl⟩
        go_wp2_with fail
        refine (HPW.out _).mono ?_
        rintro r w1 ⟨rfl, rfl⟩
        go_wp2_with fail
        refine (HCN.out _).mono ?_
        rintro r w1 ⟨rfl, rfl⟩
        go_wp2_with fail
        refine (HCN.out _).mono ?_
        rintro r w1 ⟨rfl, rfl⟩
        go_wp2_with fail
        go_ret2
        exact ⟨rfl, rfl⟩
    · have h2i : ((cnt c 39 : Nat) : Int) % 2 = 1 := by omega
      by_cases h3 : 38 < syn c 38
      · have hd : dec c = (0, 2) := by unfold dec; rw [if_neg h1, if_neg h2, if_pos h3]
        rw [hd]
        have h3i : 38 < ((syn c 38 : Nat) : Int) := by omega
        generalize (2 : Nat) ^ 39 = P at HPW h1
        have h1i : ¬ (P : Int) ≤ (c : Int) := by omega
        clear h1 h3 hd h2 hc hC
        generalize cnt c 39 = n at *
        generalize syn c 38 = s at *
        go_enter Tryd.func48, Tryd.ntmps48
        go_wp2_with fail
        refine (HSY.out _).mono ?_
        rintro r w1 ⟨rfl, rfl⟩
        go_wp2_with fail
        refine (HPW.out _).mono ?_
        rintro r w1 ⟨rfl, rfl⟩
        go_wp2_with fail
        refine (HCN.out _).mono ?_
        rintro r w1 ⟨rfl, rfl⟩
        go_wp2_with fail
        refine (HCN.out _).mono ?_
        rintro r w1 ⟨rfl, rfl⟩
        go_wp2_with fail
        go_ret2
        exact ⟨rfl, rfl⟩
      · by_cases h4 : syn c 38 = 0
        · have hd : dec c = (dat c 38, 1) := by unfold dec; rw [if_neg h1, if_neg h2, if_neg h3, if_pos h4]
          rw [hd]
          rw [h4] at HSY
          generalize (2 : Nat) ^ 39 = P at HPW h1
          have h1i : ¬ (P : Int) ≤ (c : Int) := by omega
          clear h1 h3 hd hsl h2 h4 hc hC
          generalize cnt c 39 = n at *
          go_enter Tryd.func48, Tryd.ntmps48
          go_wp2_with fail
          refine (HSY.out _).mono ?_
          rintro r w1 ⟨rfl, rfl⟩
          go_wp2_with fail
          refine (HPW.out _).mono ?_
          rintro r w1 ⟨rfl, rfl⟩
          go_wp2_with fail
          refine (HCN.out _).mono ?_
          rintro r w1 ⟨rfl, rfl⟩
          go_wp2_with fail
          refine (HCN.out _).mono ?_
          rintro r w1 ⟨rfl, rfl⟩
          go_wp2_with fail
          refine (HDA.out _).mono ?_
          rintro r w1 ⟨rfl, rfl⟩
          go_wp2_with fail
          go_ret2
          exact ⟨rfl, rfl⟩
        · have hd : dec c = (dat (c ^^^ 2 ^ (syn c 38 - 1)) 38, 1) := by unfold dec; rw [if_neg h1, if_neg h2, if_neg h3, if_neg h4]
          have hf : flip c ((syn c 38 : Nat) - 1 : Int) = c ^^^ 2 ^ (syn c 38 - 1) := by
            have := flip_in c (b := syn c 38 - 1) (by omega)
            rw [← this]
            congr 1
            omega
          rw [hd, ← hf]
          have hfl := flip_lt hc ((syn c 38 : Nat) - 1 : Int)
          have HFL := Lib.hid (fun W => rflip_any c ((syn c 38 : Nat) - 1 : Int) hc W)
          have HDF := Lib.hid (fun W => rdata_any _ hfl W)
          have h3i : ¬ 38 < ((syn c 38 : Nat) : Int) := by omega
          have h4i : 0 < ((syn c 38 : Nat) : Int) := by omega
          generalize (2 : Nat) ^ 39 = P at HPW h1
          have h1i : ¬ (P : Int) ≤ (c : Int) := by omega
          clear h1 h3 hd h2 h4 hf hc hC hfl
          generalize flip c ((syn c 38 : Nat) - 1 : Int) = d at *
          generalize cnt c 39 = n at *
          generalize syn c 38 = s at *
          go_enter Tryd.func48, Tryd.ntmps48
          go_wp2_with fail
          refine (HSY.out _).mono ?_
          rintro r w1 ⟨rfl, rfl⟩
          go_wp2_with fail
          refine (HPW.out _).mono ?_
          rintro r w1 ⟨rfl, rfl⟩
          go_wp2_with fail
          refine (HCN.out _).mono ?_
          rintro r w1 ⟨rfl, rfl⟩
          go_wp2_with fail
          refine (HCN.out _).mono ?_
          rintro r w1 ⟨rfl, rfl⟩
          go_wp2_with fail
          refine (HFL.out _).mono ?_
          rintro r w1 ⟨rfl, rfl⟩
          go_wp2_with fail
          refine (HDF.out _).mono ?_
          rintro r w1 ⟨rfl, rfl⟩
          go_wp2_with fail
          go_ret2
          exact ⟨rfl, rfl⟩
theorem spr_true {v k : Nat} (h : chk (k + 1) = true) : spr v (k + 1) = spr v k := by rw [spr, h]; rfl
theorem spr_false {v k : Nat} (h : chk (k + 1) = false) : spr v (k + 1) = ((spr v k).1 + (spr v k).2 % 2 * 2 ^ k, (spr v k).2 / 2) := by rw [spr, h]; rfl
theorem cks_le (c s : Nat) : ∀ j, j ≤ 6 → cks c s j ≤ c + j * 2147483648
  | 0, _ => by rw [cks]; omega
  | j + 1, h => by
    have ih := cks_le c s j (by omega)
    have h1 : 2 ^ (2 ^ j - 1) ≤ 2 ^ 31 := Nat.pow_le_pow_right (by omega) (by
      have : 2 ^ j ≤ 2 ^ 5 := Nat.pow_le_pow_right (by omega) (by omega)
      omega)
    have h2 : (s.testBit j).toNat * 2 ^ (2 ^ j - 1) ≤ 1 * 2 ^ (2 ^ j - 1) := Nat.mul_le_mul_right _ (Bool.toNat_le _)
    rw [cks]
    omega
theorem row_le (c j : Nat) : ∀ n, row c j n ≤ n
  | 0 => Nat.le_refl _
  | n + 1 => by
    have := row_le c j n
    have : ((n + 1).testBit j && c.testBit n).toNat ≤ 1 := Bool.toNat_le _
    rw [row]; omega
set_option maxHeartbeats 1000000 in
theorem renc_any (v : Nat) (hv : v < 4294967296) (w : World) :
    Calls Tryd.prog 32 #[.int .u32 v] w fun e w' => e = .returned (.int .u64 (enc v)) ∧ w' = w := by
  have HL := Lib.hid (spr_lt v)
  have HR := Lib.hid (spr_rest v)
  have HV := Lib.hid hv
  clear hv
  go_enter Tryd.func32, Tryd.ntmps32
  go_wp2_with fail
  go_loopg [3, 4, 5] 38 (fun g x r i wr => ∃ k : Nat, k + g = 38 ∧ x = .int .u64 (spr v k).1 ∧ r = .int .u64 (spr v k).2 ∧ i = .int .i64 ((k : Int) + 1) ∧ wr = w)
  case atStart => exact ⟨0, by omega, rfl, by have := HV.out; rw [IntKind.wrap_u64, Int.emod_eq_of_lt (by omega) (by omega)]; rfl, rfl, rfl⟩
  case round =>
    obtain ⟨k, hg, rfl, rfl, rfl, rfl⟩ := hrel
    have HG := Lib.hid hg
    have hk38 : k ≤ 38 := by omega
    clear hg
    by_cases hlt : k < 38
    · have hi : (k : Int) + 1 ≤ 38 := by omega
      have HLT := Lib.hid hlt
      have HC := Lib.hid (fun W => rcheck_any (k + 1) W)
      have hx := HL.out k
      have hp2 : 2 ^ k < 2 ^ 38 := Nat.pow_lt_pow_right (by omega) hlt
      have hr : (spr v k).2 ≤ v := by rw [HR.out]; exact Nat.div_le_self _ _
      have hr2 : (spr v k).2 < 4294967296 := Nat.lt_of_le_of_lt hr HV.out
      clear hlt hr
      cases hc : chk (k + 1) with
      | true =>
        have HS := Lib.hid (spr_true (v := v) hc)
        rw [hc] at HC
        clear hc hx hr2 hp2
        go_wp2_with fail
        refine (HC.out _).mono ?_
        rintro r w1 ⟨rfl, rfl⟩
        go_wp2_with fail
        go_roundg (gk - 1)
        case measure => have := HG.out; have := HLT.out; omega
        case rel => exact ⟨k + 1, by have := HG.out; have := HLT.out; omega, by rw [HS.out], by rw [HS.out], by go_num, rfl⟩
      | false =>
        have HS := Lib.hid (spr_false (v := v) hc)
        have HP := Lib.hid (fun W => rpower_any k (by omega) W)
        rw [hc] at HC
        clear hc
        generalize spr v k = q at *
        obtain ⟨x, r⟩ := q
        dsimp only at *
        have hm : r % 2 * 2 ^ k ≤ 1 * 2 ^ k := Nat.mul_le_mul_right _ (by omega)
        obtain ⟨y, hy⟩ : ∃ y, r % 2 * 2 ^ k = y := ⟨_, rfl⟩
        rw [hy] at HS hm
        have hyi : (r : Int) % 2 * ((2 ^ k : Nat) : Int) = (y : Int) := by rw [← hy]; simp
        have hy3 : y < 274877906944 := by omega
        have hx3 : x < 274877906944 := by omega
        generalize 2 ^ k = z at *
        clear hx hm hp2 hy
        go_wp2_with fail
        refine (HC.out _).mono ?_
        rintro r w1 ⟨rfl, rfl⟩
        go_wp2_with fail
        refine (HP.out _).mono ?_
        rintro r w1 ⟨rfl, rfl⟩
        go_wp2_with fail
        go_roundg (gk - 1)
        case measure => have := HG.out; have := HLT.out; omega
        case rel => exact ⟨k + 1, by have := HG.out; have := HLT.out; omega, by rw [HS.out]; go_num, by rw [HS.out]; go_num, by go_num, rfl⟩
    · obtain rfl : k = 38 := by omega
      clear hlt hk38 HG
      have hx := HL.out 38
      have HE : Hid (enc v = cks (spr v 38).1 (syn (spr v 38).1 38) 6 + cnt (cks (spr v 38).1 (syn (spr v 38).1 38) 6) 38 % 2 * 2 ^ 38) := Lib.hid rfl
      generalize spr v 38 = q at *
      obtain ⟨d, r⟩ := q
      dsimp only at hx HE ⊢
      have HRS := Lib.hid (fun j => row_syn d j 38)
      have HCK := Lib.hid (cks_le d (syn d 38))
      have HRL := Lib.hid (row_le d)
      have HB := Lib.hid (fun n hn W => rbit_any d n (by omega) hn W)
      generalize syn d 38 = s at *
      have HX := Lib.hid hx
      clear hx HL HR HV
      go_wp2_with fail
      go_loopg [3, 7] 6 (fun g x i wx => ∃ j : Nat, j + g = 6 ∧ x = .int .u64 (cks d s j) ∧ i = .int .i64 (2 ^ j : Nat) ∧ wx = wr)
      case atStart => exact ⟨0, by omega, rfl, rfl, rfl⟩
      case round =>
        obtain ⟨j, hg, rfl, rfl, rfl⟩ := hrel
        generalize gk = g0 at *
        have HG := Lib.hid hg
        have hck := HCK.out j (by omega)
        have hX := HX.out
        have HC2 : Hid (cks d s (j + 1) = cks d s j + (s.testBit j).toNat * 2 ^ (2 ^ j - 1)) := Lib.hid rfl
        by_cases hlt : j < 6
        · have HRJ := Lib.hid (HRS.out j)
          have hpw : 2 ^ j ≤ 2 ^ 5 := Nat.pow_le_pow_right (by omega) (by omega)
          have hp1 : 0 < 2 ^ j := Nat.pow_pos (by omega)
          have HDB : Hid (∀ p : Nat, p / 2 ^ j % 2 = (p.testBit j).toNat) := Lib.hid (fun p => (bit_toNat p j).symm)
          have HPS := Lib.hid (Nat.pow_succ 2 j)
          have hc3 : cks d s j < 412316860416 := by omega
          have HD := Lib.hid hck
          have HLT := Lib.hid hlt
          clear hck hX hg hlt
          obtain ⟨x, hx⟩ : ∃ x, cks d s j = x := ⟨_, rfl⟩
          rw [hx] at hc3 HC2 ⊢
          have HXX := Lib.hid hx
          clear hx
          generalize 2 ^ j = K at *
          have hi : (K : Int) ≤ 32 := by omega
          go_wp2_with fail
          go_outline
          go_loopg [8, 9] 38 (fun g n i wx => ∃ k : Nat, k + g = 38 ∧ n = .int .u64 (row d j k) ∧ i = .int .i64 ((k : Int) + 1) ∧ wx = wr)
          case atStart => exact ⟨0, by omega, rfl, rfl, rfl⟩
          case round =>
            obtain ⟨k, hg, rfl, rfl, rfl⟩ := hrel
            have HH := Lib.hid hg
            have hk38 : k ≤ 38 := by omega
            clear hg
            by_cases hlt : k < 38
            · have hi2 : (k : Int) + 1 ≤ 38 := by omega
              have hrl := HRL.out j k
              have HRE : Hid (row d j (k + 1) = row d j k + ((k + 1).testBit j && d.testBit k).toNat) := Lib.hid rfl
              have hK0 : (K : Int) ≠ 0 := by omega
              have hdb := HDB.out (k + 1)
              obtain ⟨n, hn⟩ : ∃ n, row d j k = n := ⟨_, rfl⟩
              rw [hn] at hrl HRE ⊢
              have hdv : ((k : Int) + 1) / (K : Int) = (((k + 1) / K : Nat) : Int) := by simp
              have hdl : (k + 1) / K ≤ 38 := Nat.le_trans (Nat.div_le_self _ _) (by omega)
              have HLT2 := Lib.hid hlt
              clear hn hlt
              generalize (k + 1) / K = m at *
              obtain ⟨y, hy⟩ : ∃ y, (d.testBit k).toNat = y := ⟨_, rfl⟩
              have hy1 : y ≤ 1 := by rw [← hy]; exact Bool.toNat_le _
              have HBB := Lib.hid (HB.out k (by omega))
              rw [hy] at HBB
              cases htb : (k + 1).testBit j with
              | true =>
                rw [htb, Bool.true_and, hy] at HRE
                rw [htb] at hdb
                have hm : (m : Int) % 2 = 1 := by simp at hdb; omega
                clear hdb htb hy
                go_wp2_with fail
                refine (HBB.out _).mono ?_
                rintro r w1 ⟨rfl, rfl⟩
                go_wp2_with fail
                go_roundg (gk - 1)
                case measure => have := HH.out; have := HLT2.out; omega
                case rel => exact ⟨k + 1, by have := HH.out; have := HLT2.out; omega, by rw [HRE.out]; go_num, by go_num, rfl⟩
              | false =>
                rw [htb, Bool.false_and] at HRE
                rw [htb] at hdb
                have hm : (m : Int) % 2 = 0 := by simp at hdb; omega
                clear hdb htb hy
                go_wp2_with fail
                go_roundg (gk - 1)
                case measure => have := HH.out; have := HLT2.out; omega
                case rel => exact ⟨k + 1, by have := HH.out; have := HLT2.out; omega, by rw [HRE.out]; rfl, by go_num, rfl⟩
            · obtain rfl : k = 38 := by omega
              have hrl := HRL.out j 38
              have hn2 := HRJ.out
              obtain ⟨n, hn⟩ : ∃ n, row d j 38 = n := ⟨_, rfl⟩
              rw [hn] at hrl hn2 ⊢
              have hKe : ((K - 1 : Nat) : Int) = (K : Int) - 1 := by omega
              have HP := Lib.hid (fun W => rpower_any (K - 1) (by omega) W)
              rw [hKe] at HP
              have hzb : 2 ^ (K - 1) ≤ 2 ^ 31 := Nat.pow_le_pow_right (by omega) (by omega)
              have hb1 : (s.testBit j).toNat ≤ 1 := Bool.toNat_le _
              generalize (s.testBit j).toNat = b at *
              have hyz : b * 2 ^ (K - 1) ≤ 1 * 2 ^ (K - 1) := Nat.mul_le_mul_right _ hb1
              obtain ⟨y, hy⟩ : ∃ y, b * 2 ^ (K - 1) = y := ⟨_, rfl⟩
              rw [hy] at HC2 hyz
              have hyi : (b : Int) * ((2 ^ (K - 1) : Nat) : Int) = (y : Int) := by rw [← hy]; simp
              have hy3 : y < 274877906944 := by omega
              generalize 2 ^ (K - 1) = z at *
              have hn2i : (n : Int) % 2 = (b : Int) := by omega
              clear hn hlt hk38 hKe hzb hyz hy hn2
              go_wp2_with fail
              refine (HP.out _).mono ?_
              rintro r w1 ⟨rfl, rfl⟩
              go_wp2_with fail
              go_roundg (g0 - 1)
              case measure => have := HG.out; have := HLT.out; omega
              case rel => exact ⟨j + 1, by have := HG.out; have := HLT.out; omega, by rw [HC2.out]; go_num, by rw [HPS.out]; go_num, rfl⟩
        · obtain rfl : j = 6 := by omega
          have hc3 : cks d s 6 < 18446744073709551616 := by omega
          have HCN := Lib.hid (fun W => rcount_any (cks d s 6) 38 hc3 (by omega) W)
          have HP := Lib.hid (fun W => rpower_any 38 (by omega) W)
          have hcl := cnt_le (cks d s 6) 38
          have hc4 : cks d s 6 < 412316860416 := by omega
          clear hck hX hg hlt HCK HC2 hc3
          generalize hxx : cks d s 6 = x at *
          generalize cnt x 38 = n at *
          have hz : (2 : Nat) ^ 38 = 274877906944 := by decide
          have hyz : n % 2 * 2 ^ 38 ≤ 1 * 2 ^ 38 := Nat.mul_le_mul_right _ (by omega)
          obtain ⟨y, hy⟩ : ∃ y, n % 2 * 2 ^ 38 = y := ⟨_, rfl⟩
          rw [hy] at HE hyz
          have hyi : (n : Int) % 2 * ((2 ^ 38 : Nat) : Int) = (y : Int) := by rw [← hy]; simp
          have hy3 : y < 412316860416 := by omega
          generalize (2 : Nat) ^ 38 = z at *
          clear hz hyz hy
          go_wp2_with fail
          refine (HCN.out _).mono ?_
          rintro r w1 ⟨rfl, rfl⟩
          go_wp2_with fail
          refine (HP.out _).mono ?_
          rintro r w1 ⟨rfl, rfl⟩
          go_wp2_with fail
          go_ret
          exact ⟨by rw [HE.out]; go_num, rfl⟩
end E
end Go.Proofs.YtehpbjkacdmlaaaDoor
