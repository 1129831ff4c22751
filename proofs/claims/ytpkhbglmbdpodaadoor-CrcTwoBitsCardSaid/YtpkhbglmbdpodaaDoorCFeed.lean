/-
  The program's feed, Update and Sum.
-/
import Derived.Test.YtpkhbglmbdpodaaDoorCTab
import Derived.Test.YtpkhbglmbdpodaaDoorCRef
import Derived.Test.YtpkhbglmbdpodaaDoorCMat
import Derived.Deep.LoopGhost
namespace Go.Proofs.YtpkhbglmbdpodaaDoor
open Go.RowKit
namespace C
open H
set_option linter.unusedVariables false

theorem tabL_at {k : Nat} (h : k < 16) : tabL.getD k 0 = ((st 4 k : Nat) : Int) := by
  have h1 := words_at k h
  have h2 : tabL = words.map fun (b : Nat) => (b : Int) := rfl
  rw [h2, List.getD, List.getElem?_map, h1]
  rfl
theorem and15 {r : Nat} (h : r < 4294967296) : bits .and .u32 (r : Int) 15 = ((r % 16 : Nat) : Int) := by
  have e := u32_and_nat r 15 h (by decide)
  rw [nat_mask4] at e
  exact e
theorem nib_xor {r : Nat} (h : r < 4294967296) : bits .xor .u32 ((r : Int) / 16) ((st 4 (r % 16) : Nat) : Int) = ((st 4 r : Nat) : Int) := by
  have e := u32_xor_nat (r / 16) (st 4 (r % 16)) (by omega) (st_lt (by omega) 4)
  rw [← st4] at e
  exact e

set_option maxRecDepth 100000 in
set_option maxHeartbeats 1000000 in
theorem pfeed_any (r : Nat) (A : Option Addr) (n c : Nat) (bs : List Int) (w : World) (tb : Tab w) (hr : r < 4294967296) (hl : bs.length = n) (hn : n ≤ 140737488351232) (hb : Byt bs) (hrd : RdI w w.heap.size .u8 A bs) :
    Calls Tryd.prog 31 #[.int .u32 r, .slice A n c] w fun e w' => e = .returned (.int .u32 (reg r (nats bs))) ∧ w' = w := by
  have HL := Lib.hid hl
  have HB := Lib.hid hb
  have HR := Lib.hid hrd
  have HRR := Lib.hid hr
  have TB := Lib.hid tb
  clear hl hb hrd hr tb
  go_enter Tryd.func31, Tryd.ntmps31
  go_wp2_with fail
  go_loopg [0, 9] n (fun g x i wr => ∃ k : Nat, k + g = n ∧ x = .int .u32 (reg r (nats (bs.take k))) ∧ i = .int .i64 k ∧ wr = w)
  case atStart => exact ⟨0, Nat.zero_add _, rfl, rfl, rfl⟩
  case round =>
    obtain ⟨k, hg, rfl, rfl, rfl⟩ := hrel
    obtain ⟨g0, hg0⟩ : ∃ g0, g0 = gk := ⟨_, rfl⟩
    subst hg0
    have HG := Lib.hid hg
    have hkn : k ≤ n := by omega
    clear hg
    by_cases hlt : k < n
    · obtain ⟨ad, rfl, _, hx⟩ := HR.out k (by rw [HL.out]; exact hlt)
      have gx : bs[k]? = some (bs[k]?.getD 0) := by rw [List.getElem?_eq_getElem (by rw [HL.out]; exact hlt)]; rfl
      generalize bs[k]?.getD 0 = x at hx gx
      have hx8 := byt_at HB.out gx
      obtain ⟨b, rfl⟩ : ∃ b : Nat, x = b := ⟨x.toNat, by omega⟩
      have hz := reg_lt HRR.out (nats_byt (byt_take HB.out k))
      have e2 : reg r (nats (bs.take (k + 1))) = st 8 (reg r (nats (bs.take k)) ^^^ b) := by rw [nats_snoc gx, reg_append]; rfl
      have E2 := Lib.hid e2
      have hxo : bits .xor .u32 ((reg r (nats (bs.take k)) : Nat) : Int) ((b : Int) % 4294967296) = ((reg r (nats (bs.take k)) ^^^ b : Nat) : Int) := by
        rw [Int.emod_eq_of_lt (by omega) (by omega)]
        exact u32_xor_nat _ b hz (by omega)
      have HLT := Lib.hid (fun j => st_lt (lt_xor (n := 32) hz (show b < 2 ^ 32 by omega)) j)
      have hk0 : (0 : Int) ≤ (k : Int) := by omega
      have hk1 : (k : Int) < (n : Int) := by omega
      generalize reg r (nats (bs.take k)) ^^^ b = y at hxo E2 HLT
      generalize reg r (nats (bs.take k)) = z at hxo
      have HX := Lib.hid hxo
      clear gx e2 hx8 hz hxo
      go_wp2_with fail
      go_loopg [0, 17] 2 (fun g x i wr2 => ∃ j : Nat, j + g = 2 ∧ x = .int .u32 (st (4 * j) y) ∧ i = .int .i64 j ∧ wr2 = wr)
      case atStart => exact ⟨0, rfl, congrArg (Value.int IntKind.u32) HX.out, rfl, rfl⟩
      case round =>
        obtain ⟨j, hg, rfl, rfl, rfl⟩ := hrel
        have HG2 := Lib.hid hg
        have hj2 : j ≤ 2 := by omega
        clear hg
        by_cases hjt : j < 2
        · have hs : st (4 * (j + 1)) y = st 4 (st (4 * j) y) := by rw [show 4 * (j + 1) = 4 * j + 4 from by omega, st_add]
          have HS := Lib.hid hs
          have hv := HLT.out (4 * j)
          generalize st (4 * j) y = v at hv HS
          have h15 := and15 hv
          have hi0 : (0 : Int) ≤ ((v % 16 : Nat) : Int) := by omega
          have hi1 : ((v % 16 : Nat) : Int) < 16 := by omega
          have hcell : wr.cell? ⟨0, v % 16, none⟩ = some (.int .u32 ((st 4 (v % 16) : Nat) : Int)) := by
            rw [TB.out (v % 16) (by omega), tabL_at (by omega)]
          have HNX := Lib.hid (nib_xor hv)
          have hjj : (j : Int) < 2 := by omega
          clear hs hv
          go_wp2_with fail
          go_roundg (gk - 1)
          case measure => have := HG2.out; omega
          case rel => exact ⟨j + 1, by have := HG2.out; omega, by rw [HNX.out, HS.out], by go_num, rfl⟩
        · have hj : j = 2 := by omega
          have E3 := Lib.hid (show st (4 * j) y = reg r (nats (bs.take (k + 1))) by rw [hj, E2.out])
          have hjj : ¬ (j : Int) < 2 := by omega
          clear hj
          generalize st (4 * j) y = v at E3
          go_wp2_with fail
          go_roundg (g0 - 1)
          case measure => have := HG.out; omega
          case rel => exact ⟨k + 1, by have := HG.out; omega, by rw [E3.out], by go_num, rfl⟩
    · have E4 := Lib.hid (show bs.take k = bs from List.take_of_length_le (by rw [HL.out]; omega))
      have hk1 : ¬ (k : Int) < (n : Int) := by omega
      generalize bs.take k = bk at E4
      go_wp2_with fail
      go_ret
      exact ⟨by rw [E4.out]; rfl, rfl⟩

theorem not_nat {s : Nat} (hs : s < 4294967296) : bits .xor .u32 (IntKind.max .u32) (s : Int) = ((ones - s : Nat) : Int) := by
  rw [not_xor hs]
  exact u32_xor_nat 4294967295 s (by decide) hs
set_option maxRecDepth 100000 in
set_option maxHeartbeats 1000000 in
theorem pupd_same (s : Nat) (A : Option Addr) (n c : Nat) (bs : List Int) (w : World) (tb : Tab w) (hs : s < 4294967296) (hl : bs.length = n) (hn : n ≤ 140737488351200) (hb : Byt bs) (hrd : RdI w w.heap.size .u8 A bs) :
    Calls Tryd.prog 16 #[.int .u32 s, .slice A n c] w fun e w' => e = .returned (.int .u32 (upd s (nats bs))) ∧ w' = w := by
  have hf := pfeed_any (ones - s) A n c bs w tb (by unfold ones; omega) hl (by omega) hb hrd
  have hz := reg_lt (show ones - s < 4294967296 by unfold ones; omega) (nats_byt hb)
  have hu : upd s (nats bs) = ones - reg (ones - s) (nats bs) := rfl
  rw [hu]
  have e1 := not_nat hs
  have E1 := Lib.hid e1
  generalize ones - s = q at *
  generalize reg q (nats bs) = z at *
  have e2 := not_nat hz
  have E2 := Lib.hid e2
  generalize ones - z = y at *
  clear hl hb hrd hu hz tb hs e1 e2
  go_enter Tryd.func16, Tryd.ntmps16
  go_wp2_with fail
  rw [E1.out]
  refine hf.mono ?_
  clear hf
  rintro r w2 ⟨rfl, rfl⟩
  go_wp2_with fail
  go_ret
  exact ⟨by rw [← E2.out]; rfl, rfl⟩
set_option maxRecDepth 100000 in
set_option maxHeartbeats 1000000 in
theorem psum_same (A : Option Addr) (n c : Nat) (bs : List Int) (w : World) (tb : Tab w) (hl : bs.length = n) (hn : n ≤ 140737488351200) (hb : Byt bs) (hrd : RdI w w.heap.size .u8 A bs) :
    Calls Tryd.prog 14 #[.slice A n c] w fun e w' => e = .returned (.int .u32 (sum (nats bs))) ∧ w' = w := by
  have hf := pupd_same 0 A n c bs w tb (by decide) hl hn hb hrd
  unfold sum
  clear hl hb hrd tb
  go_enter Tryd.func14, Tryd.ntmps14
  go_wp2_with fail
  refine hf.mono ?_
  clear hf
  rintro r w2 ⟨rfl, rfl⟩
  go_wp2_with fail
  go_ret
  exact ⟨rfl, rfl⟩
end C
end Go.Proofs.YtpkhbglmbdpodaaDoor
