/-
  For every number and every string, UnitScale returns true: a number and the name of a unit are parsed as Lookup says.
-/
import Derived.Test.YthcehhonahgfmaaDoorULaw
import Derived.Test.YthcehhonahgfmaaDoorUScM
namespace Go.Proofs.YthcehhonahgfmaaDoor.unitScale
open Go.ChangeShapes Go.WideShapes Go.ChangeAt Go.RowKit
open Go.ChangeMaps (open_string shut_string)
set_option linter.unusedVariables false
theorem i64_rng {a : Int} (h : (Lit.int .i64 a).wf = true) : -9223372036854775808 ≤ a ∧ a ≤ 9223372036854775807 := by
  simp [Lit.wf, IntKind.min, IntKind.max, IntKind.signed, IntKind.bits] at h
  omega
theorem bound_any (n : Int) (hn : -9223372036854775808 ≤ n ∧ n ≤ 9223372036854775807) :
    ∃ k : Int, (-2147483647 ≤ k ∧ k ≤ 2147483647) ∧ ∀ w, Calls Tryd.prog 39 #[.int .i64 n, .int .i64 2147483647] w fun e w' => e = .returned (.int .i64 k) ∧ w' = w := by
  by_cases hneg : n < 0
  · have ht : (-(n + 1)).tmod 4294967295 = (-(n + 1)) % 4294967295 := Int.tmod_eq_emod_of_nonneg (by omega)
    rw [Int.neg_tmod] at ht
    have h1 : 0 ≤ -(n + 1).tmod 4294967295 := by rw [ht]; exact Int.emod_nonneg _ (by omega)
    have h2 : -(n + 1).tmod 4294967295 < 4294967295 := by rw [ht]; exact Int.emod_lt_of_pos _ (by omega)
    clear ht
    refine ⟨-(n + 1).tmod 4294967295 - 2147483647, by omega, fun w => ?_⟩
    have hw : wrap64 (-(n + 1).tmod 4294967295 - 2147483647) = -(n + 1).tmod 4294967295 - 2147483647 := by unfold wrap64; omega
    have HW := Lib.hid hw
    clear hw h1 h2
    go_enter Tryd.func39, Tryd.ntmps39
    go_wp2
    go_ret
    exact ⟨by first | rfl | exact congrArg _ (congrArg _ HW.out), rfl⟩
  · refine ⟨n % 4294967295 - 2147483647, by omega, fun w => ?_⟩
    go_enter Tryd.func39, Tryd.ntmps39
    go_wp2
    go_ret
    exact ⟨rfl, rfl⟩

set_option maxRecDepth 100000 in
set_option maxHeartbeats 1000000 in
theorem walk (a0 : Int) (a1 : ByteArray) (w : World) (tb : U.Tab w) (w0 : (Lit.int .i64 a0).wf = true) (r1 : a1.size ≤ 140737488351232) :
    Calls Tryd.prog 13 #[.int .i64 a0, .string a1] w fun e w' => e = .returned (.bool true) ∧ Below w.heap.size w w' := by
  have TB := Lib.hid tb
  have HLV := Lib.hid (fun W (h : Below w.heap.size w W) => U.ulives_any W (TB.out.below h))
  obtain ⟨k, hk, HBD⟩ := bound_any a0 (i64_rng w0)
  have HK := Lib.hid hk
  clear tb w0 hk
  go_enter Tryd.func13, Tryd.ntmps13
  go_wp2_with fail
  refine (HBD _).mono ?_
  clear HBD
  rintro r w1 ⟨rfl, rfl⟩
  go_wp2_with fail
  go_loopg [6, 7] (40 : Nat) (fun g x i wr => ∃ (j : Nat) (b : ByteArray), j + g = 40 ∧ j ≤ a1.size ∧ x = .string b ∧ i = .int .i64 j ∧ b.data.toList = U.wordT a1.data.toList j ∧ wr = w1)
  case atStart => exact ⟨0, _, rfl, Nat.zero_le _, rfl, rfl, rfl, rfl⟩
  case round =>
    obtain ⟨j, b, hg, hj, rfl, rfl, hb, rfl⟩ := hrel
    have hbl : b.size ≤ j := by have := U.word_len a1.data.toList j; rw [← hb] at this; exact this
    have HG := Lib.hid hg
    have hj40 : j ≤ 40 := by omega
    clear hg
    by_cases hlt : j < a1.size ∧ j < 40
    · have hi : (j : Int) < (a1.size : Int) := by omega
      have hi4 : (j : Int) < 40 := by omega
      have hi0 : (0 : Int) ≤ (j : Int) := by omega
      have hlt1 : j < a1.size := hlt.1
      have hat := U.byte_at hlt1
      have hst := U.word_step hat
      have hex : (b ++ a1.extract j (j + 1)).data.toList = b.data.toList ++ [a1[j]] := by
        rw [U.ba_append]
        congr 1
        rw [ByteArray.data_extract, Array.toList_extract, List.extract_eq_take_drop]
        have h9 : j + 1 - j = 1 := by omega
        rw [h9]
        obtain ⟨h7, h8⟩ := List.getElem?_eq_some_iff.1 hat
        rw [List.drop_eq_getElem_cons h7, h8]
        rfl
      have hpn : ¬ 9223372036854775807 < b.size + (min (j + 1) a1.size - j) := by omega
      have HLT := Lib.hid hlt
      have HST := Lib.hid hst
      have HEX := Lib.hid hex
      have HBL := Lib.hid hbl
      have HB := Lib.hid hb
      clear hat hst hex hlt hbl hb
      by_cases h1 : 97 ≤ a1[j].toNat ∧ a1[j].toNat ≤ 122
      · have HL := Lib.hid (show U.isLet a1[j] = true by unfold U.isLet; simp [h1])
        have h1a : (97 : Int) ≤ (a1[j].toNat : Int) := by omega
        have h1b : (a1[j].toNat : Int) ≤ 122 := by omega
        clear h1
        go_wp2_with fail
        go_roundg (gk - 1)
        case measure => have := HG.out; have := HLT.out; omega
        case rel => exact ⟨j + 1, _, by have := HG.out; have := HLT.out; omega, by have := HLT.out; omega, rfl, by go_num, by rw [HST.out, HL.out, HEX.out, HB.out]; rfl, rfl⟩
      · by_cases h2 : 65 ≤ a1[j].toNat ∧ a1[j].toNat ≤ 90
        · have HL := Lib.hid (show U.isLet a1[j] = true by unfold U.isLet; simp [h2])
          have h1a : ¬ (97 : Int) ≤ (a1[j].toNat : Int) := by omega
          have h2a : (65 : Int) ≤ (a1[j].toNat : Int) := by omega
          have h2b : (a1[j].toNat : Int) ≤ 90 := by omega
          clear h1 h2
          go_wp2_with fail
          go_roundg (gk - 1)
          case measure => have := HG.out; have := HLT.out; omega
          case rel => exact ⟨j + 1, _, by have := HG.out; have := HLT.out; omega, by have := HLT.out; omega, rfl, by go_num, by rw [HST.out, HL.out, HEX.out, HB.out]; rfl, rfl⟩
        · have HL := Lib.hid (show U.isLet a1[j] = false by unfold U.isLet; simp; omega)
          by_cases h3 : 97 ≤ a1[j].toNat
          · have h1a : (97 : Int) ≤ (a1[j].toNat : Int) := by omega
            have h1b : ¬ (a1[j].toNat : Int) ≤ 122 := by omega
            have h2a : (65 : Int) ≤ (a1[j].toNat : Int) := by omega
            have h2b : ¬ (a1[j].toNat : Int) ≤ 90 := by omega
            clear h1 h2 h3
            go_wp2_with fail
            go_roundg (gk - 1)
            case measure => have := HG.out; have := HLT.out; omega
            case rel => exact ⟨j + 1, _, by have := HG.out; have := HLT.out; omega, by have := HLT.out; omega, rfl, by go_num, by rw [HST.out, HL.out, HB.out]; rfl, rfl⟩
          · have h1a : ¬ (97 : Int) ≤ (a1[j].toNat : Int) := by omega
            by_cases h4 : 65 ≤ a1[j].toNat
            · have h2a : (65 : Int) ≤ (a1[j].toNat : Int) := by omega
              have h2b : ¬ (a1[j].toNat : Int) ≤ 90 := by omega
              clear h1 h2 h3 h4
              go_wp2_with fail
              go_roundg (gk - 1)
              case measure => have := HG.out; have := HLT.out; omega
              case rel => exact ⟨j + 1, _, by have := HG.out; have := HLT.out; omega, by have := HLT.out; omega, rfl, by go_num, by rw [HST.out, HL.out, HB.out]; rfl, rfl⟩
            · have h2a : ¬ (65 : Int) ≤ (a1[j].toNat : Int) := by omega
              clear h1 h2 h3 h4
              go_wp2_with fail
              go_roundg (gk - 1)
              case measure => have := HG.out; have := HLT.out; omega
              case rel => exact ⟨j + 1, _, by have := HG.out; have := HLT.out; omega, by have := HLT.out; omega, rfl, by go_num, by rw [HST.out, HL.out, HB.out]; rfl, rfl⟩
    · by_cases hlt2 : j < a1.size
      · have hi : (j : Int) < (a1.size : Int) := by omega
        have hi4 : ¬ (j : Int) < 40 := by omega
        clear hlt hlt2 hj
        have hu1 := U.word_lets a1.data.toList j
        have hu2 := U.word_len a1.data.toList j
        rw [← hb] at hu1 hu2
        clear hb hbl HG
        by_cases hz : b.data.toList = []
        · obtain rfl : b = ⟨#[]⟩ := U.ba_ext hz
          clear hu1 hu2 hz HK
          go_wp2_with fail
          refine (HLV.out _ (Below.refl _ _)).mono ?_
          rintro r w1 ⟨rfl, hB⟩
          go_wp2_with fail
          go_ret
          exact ⟨rfl, hB⟩
        · have hps := U.parse_scale HK.out hu1 hz (by omega)
          have hbe : b.toList.isEmpty = false := by rw [ByteArray.toList_eq]; cases hbd : b.data.toList with
            | nil => exact absurd hbd hz
            | cons x y => rfl
          have hil := U.itoa_len11 HK.out
          have hsz : (⟨(Lib.itoa k).toArray⟩ : ByteArray).size ≤ 12 := by show (Lib.itoa k).toArray.size ≤ 12; simpa using hil
          have hbz : b.size ≤ 40 := by show b.data.toList.length ≤ 40; omega
          clear hil
          have HD := Lib.hid (fun W => U.rdec_any k W (by have := HK.out; omega))
          have HP := Lib.hid (fun W (h : Below wr.heap.size wr W) => U.pparse_any ((⟨(Lib.itoa k).toArray⟩ : ByteArray) ++ ⟨#[32]⟩ ++ b) W (TB.out.below h) (by simp only [ByteArray.size_append]; show _ + 1 + _ ≤ _; omega))
          have htl : ((⟨(Lib.itoa k).toArray⟩ : ByteArray) ++ ⟨#[32]⟩ ++ b).toList = Lib.itoa k ++ 32 :: b.data.toList := by
            rw [ByteArray.toList_eq, U.ba_append, U.ba_append]
            simp
          rw [htl, hps] at HP
          clear htl hps
          have HLK := Lib.hid (fun W (h : Below wr.heap.size wr W) => U.plook_any b W (TB.out.below h))
          rw [ByteArray.toList_eq] at HLK
          have hls := U.look_size b.data.toList
          generalize U.lookT b.data.toList = L at *
          obtain ⟨x, m, ok⟩ := L
          dsimp only at HP HLK hls
          generalize (⟨(Lib.itoa k).toArray⟩ : ByteArray) = D at *
          have hda : D.size + 1 ≤ 9223372036854775807 := by omega
          have hdb : D.size + 1 + b.size ≤ 9223372036854775807 := by omega
          clear hsz hbz hz hu1 hu2
          cases ok with
          | false =>
            rw [if_pos rfl] at HP
            dsimp only at HP
            clear hls
            go_wp2_with fail
            refine (HD.out _).mono ?_
            rintro r w1 ⟨rfl, rfl⟩
            go_wp2_with fail
            refine (HP.out _ (Below.refl _ _)).mono ?_
            rintro r w2 ⟨rfl, hB⟩
            obtain ⟨hc2, hf2⟩ := U.bcell hB
            have HB2 := Lib.hid hB
            clear hB
            go_wp2_with fail
            refine (HLK.out _ (HB2.out.alloc HB2.out.size _)).mono ?_
            rintro r w3 ⟨rfl, hB⟩
            obtain ⟨hc3, hf3⟩ := U.bcell hB
            have hsz := hB.size
            try simp at hsz
            have hz3 : w2.heap.size < w3.heap.size := by omega
            clear hsz
            have HB3 := Lib.hid ((HB2.out.alloc HB2.out.size _).trans (hB.mono (HB2.out.alloc HB2.out.size _).size))
            clear hB
            go_wp2_with fail
            refine (HLV.out _ (HB3.out.alloc HB3.out.size _)).mono ?_
            rintro r w4 ⟨rfl, hB⟩
            have HB4 := Lib.hid ((HB3.out.alloc HB3.out.size _).trans (hB.mono (HB3.out.alloc HB3.out.size _).size))
            clear hB
            go_wp2_with fail
            go_ret
            exact ⟨rfl, HB4.out⟩
          | true =>
            rw [if_neg (by decide)] at HP
            obtain ⟨hm1, hm2⟩ := hls rfl
            have hmb := U.mul_bd HK.out (show (-3600 : Int) ≤ m ∧ m ≤ 3600 by omega)
            have hkm1 : -9223372036854775808 ≤ k * m := by omega
            have hkm2 : k * m ≤ 9223372036854775807 := by omega
            clear hmb hls HK
            have HV := Lib.hid (fun W => U.rvalid_any ⟨k * m, x⟩ W)
            rcases U.chk_cases ⟨k * m, x⟩ with ⟨hv, he⟩ | ⟨hv, he⟩
            · rw [he] at HP
              rw [decide_eq_true hv] at HV
              dsimp only at HP HV
              clear hv he
              go_wp2_with fail
              refine (HD.out _).mono ?_
              rintro r w1 ⟨rfl, rfl⟩
              go_wp2_with fail
              refine (HP.out _ (Below.refl _ _)).mono ?_
              rintro r w2 ⟨rfl, hB⟩
              obtain ⟨hc2, hf2⟩ := U.bcell hB
              have HB2 := Lib.hid hB
              clear hB
              go_wp2_with fail
              refine (HLK.out _ (HB2.out.alloc HB2.out.size _)).mono ?_
              rintro r w3 ⟨rfl, hB⟩
              obtain ⟨hc3, hf3⟩ := U.bcell hB
              have hsz := hB.size
              try simp at hsz
              have hz3 : w2.heap.size < w3.heap.size := by omega
              clear hsz
              have HB3 := Lib.hid ((HB2.out.alloc HB2.out.size _).trans (hB.mono (HB2.out.alloc HB2.out.size _).size))
              clear hB
              go_wp2_with fail
              refine (HV.out _).mono ?_
              rintro r w4 ⟨rfl, hB⟩
              obtain ⟨hc4, hf4⟩ := U.bcell hB
              have hsz := hB.size
              try simp at hsz
              have hz4 : w2.heap.size < w4.heap.size := by omega
              have hz5 : w3.heap.size < w4.heap.size := by omega
              have hz6 : w3.heap.size + 1 < w4.heap.size := by omega
              clear hsz
              have HA3 := Lib.hid ((HB3.out.alloc HB3.out.size (.cells #[.int .i64 x.e, .int .i64 x.d, .int .i64 x.t, .int .i64 x.a, .int .i64 x.h] 23)))
              have HB4 := Lib.hid ((HA3.out.alloc HA3.out.size _).trans (hB.mono (HA3.out.alloc HA3.out.size _).size))
              have hq4 := fun o => (U.bcell ((U.bel2 w3 _ _).trans (hB.mono (U.bel2 w3 _ _).size))).1 w2.heap.size o hz3
              have hq3 := fun o => hc3 w2.heap.size o (by simp)
              clear hB
              go_wp2_with fail
              refine (HLV.out _ (HB4.out)).mono ?_
              rintro r w5 ⟨rfl, hB⟩
              have HB5 := Lib.hid (HB4.out.trans (hB.mono HB4.out.size))
              clear hB
              go_wp2_with fail
              go_ret
              exact ⟨rfl, HB5.out⟩
            · rw [he] at HP
              rw [decide_eq_false hv] at HV
              dsimp only at HP HV
              clear hv he
              go_wp2_with fail
              refine (HD.out _).mono ?_
              rintro r w1 ⟨rfl, rfl⟩
              go_wp2_with fail
              refine (HP.out _ (Below.refl _ _)).mono ?_
              rintro r w2 ⟨rfl, hB⟩
              obtain ⟨hc2, hf2⟩ := U.bcell hB
              have HB2 := Lib.hid hB
              clear hB
              go_wp2_with fail
              refine (HLK.out _ (HB2.out.alloc HB2.out.size _)).mono ?_
              rintro r w3 ⟨rfl, hB⟩
              obtain ⟨hc3, hf3⟩ := U.bcell hB
              have hsz := hB.size
              try simp at hsz
              have hz3 : w2.heap.size < w3.heap.size := by omega
              clear hsz
              have HB3 := Lib.hid ((HB2.out.alloc HB2.out.size _).trans (hB.mono (HB2.out.alloc HB2.out.size _).size))
              clear hB
              go_wp2_with fail
              refine (HV.out _).mono ?_
              rintro r w4 ⟨rfl, hB⟩
              obtain ⟨hc4, hf4⟩ := U.bcell hB
              have hsz := hB.size
              try simp at hsz
              have hz4 : w2.heap.size < w4.heap.size := by omega
              have hz5 : w3.heap.size < w4.heap.size := by omega
              have hz6 : w3.heap.size + 1 < w4.heap.size := by omega
              clear hsz
              have HA3 := Lib.hid ((HB3.out.alloc HB3.out.size (.cells #[.int .i64 x.e, .int .i64 x.d, .int .i64 x.t, .int .i64 x.a, .int .i64 x.h] 23)))
              have HB4 := Lib.hid ((HA3.out.alloc HA3.out.size _).trans (hB.mono (HA3.out.alloc HA3.out.size _).size))
              have hq4 := fun o => (U.bcell ((U.bel2 w3 _ _).trans (hB.mono (U.bel2 w3 _ _).size))).1 w2.heap.size o hz3
              have hq3 := fun o => hc3 w2.heap.size o (by simp)
              clear hB
              go_wp2_with fail
              refine (HLV.out _ (HB4.out)).mono ?_
              rintro r w5 ⟨rfl, hB⟩
              have HB5 := Lib.hid (HB4.out.trans (hB.mono HB4.out.size))
              clear hB
              go_wp2_with fail
              go_ret
              exact ⟨rfl, HB5.out⟩
      · have hi : ¬ (j : Int) < (a1.size : Int) := by omega
        clear hlt hlt2 hj
        have hu1 := U.word_lets a1.data.toList j
        have hu2 := U.word_len a1.data.toList j
        rw [← hb] at hu1 hu2
        clear hb hbl HG
        by_cases hz : b.data.toList = []
        · obtain rfl : b = ⟨#[]⟩ := U.ba_ext hz
          clear hu1 hu2 hz HK
          go_wp2_with fail
          refine (HLV.out _ (Below.refl _ _)).mono ?_
          rintro r w1 ⟨rfl, hB⟩
          go_wp2_with fail
          go_ret
          exact ⟨rfl, hB⟩
        · have hps := U.parse_scale HK.out hu1 hz (by omega)
          have hbe : b.toList.isEmpty = false := by rw [ByteArray.toList_eq]; cases hbd : b.data.toList with
            | nil => exact absurd hbd hz
            | cons x y => rfl
          have hil := U.itoa_len11 HK.out
          have hsz : (⟨(Lib.itoa k).toArray⟩ : ByteArray).size ≤ 12 := by show (Lib.itoa k).toArray.size ≤ 12; simpa using hil
          have hbz : b.size ≤ 40 := by show b.data.toList.length ≤ 40; omega
          clear hil
          have HD := Lib.hid (fun W => U.rdec_any k W (by have := HK.out; omega))
          have HP := Lib.hid (fun W (h : Below wr.heap.size wr W) => U.pparse_any ((⟨(Lib.itoa k).toArray⟩ : ByteArray) ++ ⟨#[32]⟩ ++ b) W (TB.out.below h) (by simp only [ByteArray.size_append]; show _ + 1 + _ ≤ _; omega))
          have htl : ((⟨(Lib.itoa k).toArray⟩ : ByteArray) ++ ⟨#[32]⟩ ++ b).toList = Lib.itoa k ++ 32 :: b.data.toList := by
            rw [ByteArray.toList_eq, U.ba_append, U.ba_append]
            simp
          rw [htl, hps] at HP
          clear htl hps
          have HLK := Lib.hid (fun W (h : Below wr.heap.size wr W) => U.plook_any b W (TB.out.below h))
          rw [ByteArray.toList_eq] at HLK
          have hls := U.look_size b.data.toList
          generalize U.lookT b.data.toList = L at *
          obtain ⟨x, m, ok⟩ := L
          dsimp only at HP HLK hls
          generalize (⟨(Lib.itoa k).toArray⟩ : ByteArray) = D at *
          have hda : D.size + 1 ≤ 9223372036854775807 := by omega
          have hdb : D.size + 1 + b.size ≤ 9223372036854775807 := by omega
          clear hsz hbz hz hu1 hu2
          cases ok with
          | false =>
            rw [if_pos rfl] at HP
            dsimp only at HP
            clear hls
            go_wp2_with fail
            refine (HD.out _).mono ?_
            rintro r w1 ⟨rfl, rfl⟩
            go_wp2_with fail
            refine (HP.out _ (Below.refl _ _)).mono ?_
            rintro r w2 ⟨rfl, hB⟩
            obtain ⟨hc2, hf2⟩ := U.bcell hB
            have HB2 := Lib.hid hB
            clear hB
            go_wp2_with fail
            refine (HLK.out _ (HB2.out.alloc HB2.out.size _)).mono ?_
            rintro r w3 ⟨rfl, hB⟩
            obtain ⟨hc3, hf3⟩ := U.bcell hB
            have hsz := hB.size
            try simp at hsz
            have hz3 : w2.heap.size < w3.heap.size := by omega
            clear hsz
            have HB3 := Lib.hid ((HB2.out.alloc HB2.out.size _).trans (hB.mono (HB2.out.alloc HB2.out.size _).size))
            clear hB
            go_wp2_with fail
            refine (HLV.out _ (HB3.out.alloc HB3.out.size _)).mono ?_
            rintro r w4 ⟨rfl, hB⟩
            have HB4 := Lib.hid ((HB3.out.alloc HB3.out.size _).trans (hB.mono (HB3.out.alloc HB3.out.size _).size))
            clear hB
            go_wp2_with fail
            go_ret
            exact ⟨rfl, HB4.out⟩
          | true =>
            rw [if_neg (by decide)] at HP
            obtain ⟨hm1, hm2⟩ := hls rfl
            have hmb := U.mul_bd HK.out (show (-3600 : Int) ≤ m ∧ m ≤ 3600 by omega)
            have hkm1 : -9223372036854775808 ≤ k * m := by omega
            have hkm2 : k * m ≤ 9223372036854775807 := by omega
            clear hmb hls HK
            have HV := Lib.hid (fun W => U.rvalid_any ⟨k * m, x⟩ W)
            rcases U.chk_cases ⟨k * m, x⟩ with ⟨hv, he⟩ | ⟨hv, he⟩
            · rw [he] at HP
              rw [decide_eq_true hv] at HV
              dsimp only at HP HV
              clear hv he
              go_wp2_with fail
              refine (HD.out _).mono ?_
              rintro r w1 ⟨rfl, rfl⟩
              go_wp2_with fail
              refine (HP.out _ (Below.refl _ _)).mono ?_
              rintro r w2 ⟨rfl, hB⟩
              obtain ⟨hc2, hf2⟩ := U.bcell hB
              have HB2 := Lib.hid hB
              clear hB
              go_wp2_with fail
              refine (HLK.out _ (HB2.out.alloc HB2.out.size _)).mono ?_
              rintro r w3 ⟨rfl, hB⟩
              obtain ⟨hc3, hf3⟩ := U.bcell hB
              have hsz := hB.size
              try simp at hsz
              have hz3 : w2.heap.size < w3.heap.size := by omega
              clear hsz
              have HB3 := Lib.hid ((HB2.out.alloc HB2.out.size _).trans (hB.mono (HB2.out.alloc HB2.out.size _).size))
              clear hB
              go_wp2_with fail
              refine (HV.out _).mono ?_
              rintro r w4 ⟨rfl, hB⟩
              obtain ⟨hc4, hf4⟩ := U.bcell hB
              have hsz := hB.size
              try simp at hsz
              have hz4 : w2.heap.size < w4.heap.size := by omega
              have hz5 : w3.heap.size < w4.heap.size := by omega
              have hz6 : w3.heap.size + 1 < w4.heap.size := by omega
              clear hsz
              have HA3 := Lib.hid ((HB3.out.alloc HB3.out.size (.cells #[.int .i64 x.e, .int .i64 x.d, .int .i64 x.t, .int .i64 x.a, .int .i64 x.h] 23)))
              have HB4 := Lib.hid ((HA3.out.alloc HA3.out.size _).trans (hB.mono (HA3.out.alloc HA3.out.size _).size))
              have hq4 := fun o => (U.bcell ((U.bel2 w3 _ _).trans (hB.mono (U.bel2 w3 _ _).size))).1 w2.heap.size o hz3
              have hq3 := fun o => hc3 w2.heap.size o (by simp)
              clear hB
              go_wp2_with fail
              refine (HLV.out _ (HB4.out)).mono ?_
              rintro r w5 ⟨rfl, hB⟩
              have HB5 := Lib.hid (HB4.out.trans (hB.mono HB4.out.size))
              clear hB
              go_wp2_with fail
              go_ret
              exact ⟨rfl, HB5.out⟩
            · rw [he] at HP
              rw [decide_eq_false hv] at HV
              dsimp only at HP HV
              clear hv he
              go_wp2_with fail
              refine (HD.out _).mono ?_
              rintro r w1 ⟨rfl, rfl⟩
              go_wp2_with fail
              refine (HP.out _ (Below.refl _ _)).mono ?_
              rintro r w2 ⟨rfl, hB⟩
              obtain ⟨hc2, hf2⟩ := U.bcell hB
              have HB2 := Lib.hid hB
              clear hB
              go_wp2_with fail
              refine (HLK.out _ (HB2.out.alloc HB2.out.size _)).mono ?_
              rintro r w3 ⟨rfl, hB⟩
              obtain ⟨hc3, hf3⟩ := U.bcell hB
              have hsz := hB.size
              try simp at hsz
              have hz3 : w2.heap.size < w3.heap.size := by omega
              clear hsz
              have HB3 := Lib.hid ((HB2.out.alloc HB2.out.size _).trans (hB.mono (HB2.out.alloc HB2.out.size _).size))
              clear hB
              go_wp2_with fail
              refine (HV.out _).mono ?_
              rintro r w4 ⟨rfl, hB⟩
              obtain ⟨hc4, hf4⟩ := U.bcell hB
              have hsz := hB.size
              try simp at hsz
              have hz4 : w2.heap.size < w4.heap.size := by omega
              have hz5 : w3.heap.size < w4.heap.size := by omega
              have hz6 : w3.heap.size + 1 < w4.heap.size := by omega
              clear hsz
              have HA3 := Lib.hid ((HB3.out.alloc HB3.out.size (.cells #[.int .i64 x.e, .int .i64 x.d, .int .i64 x.t, .int .i64 x.a, .int .i64 x.h] 23)))
              have HB4 := Lib.hid ((HA3.out.alloc HA3.out.size _).trans (hB.mono (HA3.out.alloc HA3.out.size _).size))
              have hq4 := fun o => (U.bcell ((U.bel2 w3 _ _).trans (hB.mono (U.bel2 w3 _ _).size))).1 w2.heap.size o hz3
              have hq3 := fun o => hc3 w2.heap.size o (by simp)
              clear hB
              go_wp2_with fail
              refine (HLV.out _ (HB4.out)).mono ?_
              rintro r w5 ⟨rfl, hB⟩
              have HB5 := Lib.hid (HB4.out.trans (hB.mono HB4.out.size))
              clear hB
              go_wp2_with fail
              go_ret
              exact ⟨rfl, HB5.out⟩

theorem reads (os : Os) {H0 : Type} (enc : TypeId × Value → H0) : ∃ places, DataW.whole enc Tryd.prog ((Go.Proofs.YthcehhonahgfmaaDoor.U.laidWorld os).forCall (fun _ _ => 0) ⟨#[], #[.int .i64 0, .string ByteArray.empty], []⟩).memory Tryd.f13.params.toList Rows.unitScaleSpec.vars false (#[.int .i64 0, .string ByteArray.empty] : Array Value).toList 8 = some ([.lit (.int .i64 0), .lit (.string [])], [], places) :=
  ⟨[], by kernel_rfl⟩
set_option maxRecDepth 100000 in
theorem lifted (os : Os) (started : os.Started) (H0 : Type) (enc : TypeId × Value → H0) (F0 : Stop.Interp) :
    ReturnsInHanded {} Tryd.checked os 13 .any ((OpenSpec.ofChange Rows.unitScaleSpec).preRow enc Tryd.prog Tryd.f13 Rows.unitScaleRow.domain false Rows.unitScaleRow.laid) (((OpenSpec.ofChange Rows.unitScaleSpec).at F0).post enc Tryd.prog Tryd.f13 false true false false) := by
  obtain ⟨places, hx⟩ := reads os enc
  refine returnsInHanded_of_row (C := Tryd.checked) (s := (OpenSpec.ofChange Rows.unitScaleSpec)) Go.Proofs.YthcehhonahgfmaaDoor.O.own started (by kernel_rfl) Tryd.func13
    (Go.Proofs.YthcehhonahgfmaaDoor.U.witness_sh (enc := enc) (C := Tryd.checked) false (Go.Proofs.YthcehhonahgfmaaDoor.U.laidWorld os) #[.int .i64 0, .string ByteArray.empty] (Go.Proofs.YthcehhonahgfmaaDoor.U.laid_os os) (World.shaped_of_ZipB (by kernel_rfl) (by kernel_rfl)) (by kernel_rfl)
      (OpenSpec.preRow_of_cond 8 hx (by kernel_rfl) (fun k hk => by cases hk) (by kernel_rfl) (Go.Proofs.YthcehhonahgfmaaDoor.U.laid_met os _))) ?_
  intro W base args ds gs before hval0 hW _ hk0 hsz0 hL hSh _
  have hsz : (DataW.weightsEach Tryd.prog (Tryd.f13.params.toList ++ (OpenSpec.ofChange Rows.unitScaleSpec).bare.plain.varTypes Tryd.prog) (ds ++ gs)).all (· ≤ reachBytes) = true := hsz0
  clear hsz0
  have hval : ∀ (j : Nat) t v, Tryd.f13.params[j]? = some t → args[j]? = some v → Value.okWide Tryd.prog W .any base t v := hval0
  have hW' := hW
  obtain ⟨p, q, hA0, hV, rfl, hfz, hnd⟩ := hW
  have hA : DataW.TrodAll enc Tryd.prog W 0 (fun _ => true) true Tryd.f13.params.toList args.toList ds p := hA0
  rw [Tryd.params13] at hA hval hsz
  obtain ⟨v0, vs0, d0, ds0, p0, q0, hargs, rfl, rfl, h0, r0⟩ := trodAll_cons hA
  obtain ⟨v1, vs1, d1, ds1, p1, q1, rfl, rfl, rfl, h1, r1⟩ := trodAll_cons r0
  obtain ⟨rfl, rfl, rfl⟩ := trodAll_nil r1
  obtain rfl : args = #[v0, v1] := by cases args; simp_all
  obtain ⟨rfl, rfl⟩ := trodVars_none hV
  obtain ⟨a0, rfl, rfl, rfl, w0⟩ := open_int Tryd.underlying3 (hval 0 3 v0 rfl rfl) h0
  obtain ⟨a1, rfl, rfl, rfl, w1⟩ := open_string Tryd.underlying9 (hval 1 9 v1 rfl rfl) h1
  clear hA0 hval0
  have r1 : a1.size ≤ 140737488351232 := by
    have h := sized_string hsz (j := 1) (t := 9) (bytes := a1.data.toList) rfl rfl
    have e : a1.data.toList.length = a1.size := by simp
    rw [e] at h
    simpa [reachBytes] using h
  have tb := Go.Proofs.YthcehhonahgfmaaDoor.U.tab_of_laid hL hSh
  refine (walk a0 a1 W tb w0 r1).mono fun e W' ⟨he, bel⟩ => ?_
  subst he
  exact ⟨_, rfl, _, _, _, [], _, [], hW', trodAll_mk1 (shut_bool Tryd.underlying4 _), (trodAll_cons_mk (shut_int Tryd.underlying3 w0) (trodAll_cons_mk (shut_string Tryd.underlying9 w1) trodAll_mk0)), rfl, bel.frame _, fun h => by cases h⟩

theorem said : Rows.UnitScaleSaid :=
  OpenClaim.holds_of_cond 13 Tryd.f13 rfl rfl rfl rfl rfl rfl rfl ⟨rfl, rfl, rfl, rfl, rfl⟩ rfl rfl rfl rfl rfl (by kernel_rfl) Tryd.func13 (by kernel_rfl)
    (of_decide_eq_true (by kernel_rfl)) (by unfold Func.isWrapper; first | (rw [if_pos (by decide +kernel)]; kernel_rfl) | (rw [if_neg (by decide +kernel)]; exact ⟨rfl, rfl⟩))
    (fun os started H0 enc _ F0 => by rw [OpenClaim.pre_eq_preRow]; exact lifted os started H0 enc F0)
theorem plain (f : FuncId) (fn : Func) (hf : Tryd.pinned.checked.prog.funcNamed "perigee/perigeelaw04.UnitScale" = some f) (hfn : Tryd.pinned.checked.prog.funcs[f]? = some fn) :
    true = Tryd.pinned.checked.prog.looks [] ∧ ∀ (j : Nat) t, fn.params[j]? = some t → Tryd.pinned.checked.prog.wantsStandIn t = false := by
  obtain rfl : f = 13 := Option.some.inj ((show Tryd.prog.funcNamed "perigee/perigeelaw04.UnitScale" = some 13 by kernel_rfl).symm.trans hf) |>.symm
  obtain rfl : fn = Tryd.f13 := (Option.some.inj (Tryd.func13.symm.trans hfn)).symm
  refine ⟨by kernel_rfl, fun j t ht => ?_⟩
  rw [Tryd.params13] at ht
  have hm : t ∈ [3, 9] := by simpa using Array.mem_of_getElem? ht
  have hall : ([3, 9].all fun u => !Tryd.prog.wantsStandIn u) = true := by kernel_rfl
  exact (show Tryd.prog.wantsStandIn t = false by simpa using List.all_eq_true.1 hall t hm)
/-- ████ THE CARD ████ -/
theorem proved : Rows.UnitScaleCardSaid :=
  Claim7.holds_tied_plain_at .later [] _ _ _ _ said (fun _ h => by cases h) (by kernel_rfl) (fun _ h => by cases h) unitScale_row_tie rfl ⟨rfl, rfl⟩ (by kernel_rfl) rfl plain (by kernel_rfl)
end Go.Proofs.YthcehhonahgfmaaDoor.unitScale
