/-
  The program's Combine.
-/
import Derived.Test.YtpkhbglmbdpodaaDoorCSq
import Derived.Deep.WholeRow
import Derived.Lib.ItoaNum
import Derived.Test.YtpkhbglmbdpodaaDoorShelf
namespace Go.Proofs.YtpkhbglmbdpodaaDoor
open Go.RowKit
namespace C
open H
set_option linter.unusedVariables false

theorem i64_and1 (n : Int) : bits .and .i64 n 1 = n % 2 := by
  have h1 : (BitVec.ofInt 64 1).toNat = 2 ^ 1 - 1 := by decide
  have key : (BitVec.ofInt 64 n &&& BitVec.ofInt 64 1).toNat = (n % ((2 ^ 64 : Nat) : Int)).toNat % 2 ^ 1 := by
    rw [BitVec.toNat_and, BitVec.toNat_ofInt, h1, Nat.and_two_pow_sub_one_eq_mod]
  show IntKind.i64.wrap ((BitVec.ofInt 64 n &&& BitVec.ofInt 64 1).toNat : Nat) = n % 2
  rw [key, IntKind.wrap_i64]
  omega
theorem len_spec {n : Nat} (h : n < 2 ^ 63) : n < 2 ^ Lib.bitLen n ∧ Lib.bitLen n ≤ 63 := by
  by_cases h0 : n = 0
  · subst h0
    exact ⟨by decide, by decide⟩
  · have hb := Lib.bitLenAux_bounds 64 n (by omega) h0
    refine ⟨hb.2.2, ?_⟩
    show Lib.bitLenAux 64 n ≤ 63
    generalize Lib.bitLenAux 64 n = L at hb
    by_cases hL : L ≤ 63
    · exact hL
    · have := Nat.pow_le_pow_right (n := 2) (by decide) (show 63 ≤ L - 1 by omega)
      omega
/-- What the loop over the digits keeps. -/
def Dig (n a k r : Nat) : Prop := r < 4294967296 ∧ st (8 * 2 ^ k * (n / 2 ^ k)) r = st (8 * n) a
theorem Dig.start {n a : Nat} (h : a < 4294967296) : Dig n a 0 a := ⟨h, by rw [Nat.pow_zero, Nat.div_one, Nat.mul_one]⟩
theorem half (n k : Nat) : n / 2 ^ k / 2 = n / 2 ^ (k + 1) := by rw [Nat.div_div_eq_div_mul, Nat.pow_succ]
theorem twice (k : Nat) : 2 * (8 * 2 ^ k) = 8 * 2 ^ (k + 1) := by rw [Nat.pow_succ]; omega
theorem Dig.odd {n a k r : Nat} (h : Dig n a k r) (h1 : n / 2 ^ k % 2 = 1) : Dig n a (k + 1) (st (8 * 2 ^ k) r) := by
  refine ⟨st_lt h.1 _, ?_⟩
  rw [← h.2, pow_odd h1, half, twice]
theorem Dig.even {n a k r : Nat} (h : Dig n a k r) (h1 : ¬ n / 2 ^ k % 2 = 1) : Dig n a (k + 1) r := by
  refine ⟨h.1, ?_⟩
  rw [← h.2, pow_even h1, half, twice]
theorem Dig.fin {n a k r : Nat} (h : Dig n a k r) (hk : n < 2 ^ k) : r = st (8 * n) a := by
  have := h.2
  rw [Nat.div_eq_of_lt hk, Nat.mul_zero] at this
  exact this

set_option maxRecDepth 100000 in
set_option maxHeartbeats 1000000 in
theorem pcomb_pos (a b n : Nat) (w : World) (tb : Tab w) (ha : a < 4294967296) (hb : b < 4294967296) (hn : n < 9223372036854775808) :
    Calls Tryd.prog 18 #[.int .u32 a, .int .u32 b, .int .i64 n] w fun e w' => e = .returned (.int .u32 (comb a b n)) ∧ Below w.heap.size w w' := by
  have hz := pzero_any w tb
  have hlen := fun W => Tryd.bits_Len (n : Int) W (by omega) (by omega)
  have hls := len_spec (n := n) hn
  rw [show ((n : Int)).toNat = n by omega] at hlen
  generalize Lib.bitLen n = L at *
  have HLS := Lib.hid hls
  have HLN := Lib.hid hlen
  have HAB := Lib.hid (And.intro ha hb)
  have hn0 : ¬ (n : Int) < 0 := by omega
  have hn1 : (n : Int) ≤ 9223372036854775807 := by omega
  have HN := Lib.hid hn
  clear tb ha hb hls hlen hn
  go_enter Tryd.func18, Tryd.ntmps18
  go_wp2_with fail
  refine hz.mono ?_
  clear hz
  rintro r w1 ⟨rfl, hB1⟩
  go_wp2_with fail
  rw [run_store_row (cs := mx 8) (heap_alloc_new w1 _) (by rw [mx_size]; rfl) (int_cells _ _), World.setRow_alloc_new]
  have hb1 := heap_alloc_new w1 (.cells (mx 8) 56)
  have hB1' : Below w.heap.size w (w1.alloc (.cells (mx 8) 56)) := hB1.alloc hB1.size _
  have HX := Lib.hid (And.intro hb1 (And.intro hB1' hB1.size))
  generalize hw2 : w1.alloc (.cells (mx 8) 56) = w2 at HX
  clear hb1 hB1' hB1
  have HW2 := Lib.hid hw2
  clear hw2
  obtain ⟨B, hBe⟩ : ∃ B, w1.heap.size = B := ⟨_, rfl⟩
  rw [hBe] at HX
  rw [hBe]
  have HBE := Lib.hid hBe
  clear hBe
  go_wp2_with fail
  refine (HLN.out _).mono ?_
  rintro r w3 ⟨rfl, rfl⟩
  go_wp2_with fail
  have hL63 : L ≤ 63 := HLS.out.2
  go_loopg [7, 16] L (fun g x i wr => ∃ k r : Nat, k + g = L ∧ x = .int .u32 r ∧ i = .int .i64 k ∧ Dig n a k r ∧ wr.heap[B]? = some (.cells (mx (8 * 2 ^ k)) 56 (0, 0)) ∧ Below w.heap.size w wr ∧ w.heap.size ≤ B)
  case atStart => exact ⟨0, a, Nat.zero_add _, rfl, rfl, Dig.start HAB.out.1, HX.out.1, HX.out.2.1, HX.out.2.2⟩
  case round =>
    obtain ⟨k, r, hg, rfl, rfl, hd, hm, hB, hwB⟩ := hrel
    have HG := Lib.hid hg
    have hk : k ≤ L := by omega
    clear hg
    by_cases hlt : k < L
    · have hi : (k : Int) < (L : Int) := by omega
      have hk63 : k < 63 := by omega
      have HD := Lib.hid hd
      have hsq := fun W => psq_any (8 * 2 ^ k) W
      simp only [twice] at hsq
      have HSQ := Lib.hid hsq
      have HM := Lib.hid (And.intro hm (And.intro hB hwB))
      have hmB : B < wr.heap.size := (Array.getElem?_eq_some_iff.1 hm).1
      clear hsq hd hm hB
      have hbt : bits .and .i64 ((n : Int) / 2 ^ k) 1 = ((n / 2 ^ k % 2 : Nat) : Int) := by rw [i64_and1]; simp
      by_cases h1 : n / 2 ^ k % 2 = 1
      · rw [h1] at hbt
        have hap := papply_any (8 * 2 ^ k) r wr HD.out.1
        have HD2 := Lib.hid (HD.out.odd h1)
        have HAP := Lib.hid hap
        clear h1 hap
        generalize st (8 * 2 ^ k) r = r2 at *
        go_wp2_with (refine wpList_load_row rfl 56 _ rfl B rfl 56 (mx (8 * 2 ^ k)) (0, 0) _ HM.out.1 Tryd.underlying56 rfl (by rw [mx_size]; exact sizeMx) ?_)
        refine HAP.out.mono ?_
        rintro v4 w4 ⟨rfl, hB4⟩
        have HM4 := Lib.hid (show w4.heap[B]? = some (.cells (mx (8 * 2 ^ k)) 56 (0, 0)) ∧ Below w.heap.size w w4 ∧ w.heap.size ≤ B ∧ B < w4.heap.size from ⟨(hB4.block B hmB).trans HM.out.1, HM.out.2.1.trans (hB4.mono HM.out.2.1.size), HM.out.2.2, by have := hB4.size; omega⟩)
        clear hB4
        go_wp2_with (refine wpList_load_row rfl 56 _ rfl B rfl 56 (mx (8 * 2 ^ k)) (0, 0) _ HM4.out.1 Tryd.underlying56 rfl (by rw [mx_size]; exact sizeMx) ?_)
        refine (HSQ.out _).mono ?_
        rintro v5 w5 ⟨rfl, hB5⟩
        have hm5 : w5.heap[B]? = some (.cells (mx (8 * 2 ^ k)) 56 (0, 0)) := (hB5.block B HM4.out.2.2.2).trans HM4.out.1
        have hst := run_store_row (P := Tryd.prog) (cs := mx (8 * 2 ^ (k + 1))) hm5 (by rw [mx_size, mx_size]) (int_cells _ _)
        have HF := Lib.hid (And.intro hm5 (HM4.out.2.1.trans (hB5.mono HM4.out.2.1.size)))
        clear hm5 hB5
        go_wp2_with fail
        go_roundg (gk - 1)
        case measure => have := HG.out; omega
        case rel => exact ⟨k + 1, _, by have := HG.out; omega, rfl, by go_num, HD2.out, setRow_heap _ _ _ _ _ _ HF.out.1, below_setRow HF.out.2 HM4.out.2.2.1 _, HM4.out.2.2.1⟩
      · have HD2 := Lib.hid (HD.out.even h1)
        rw [show n / 2 ^ k % 2 = 0 by omega] at hbt
        have HM4 := Lib.hid (show wr.heap[B]? = some (.cells (mx (8 * 2 ^ k)) 56 (0, 0)) ∧ Below w.heap.size w wr ∧ w.heap.size ≤ B ∧ B < wr.heap.size from ⟨HM.out.1, HM.out.2.1, HM.out.2.2, hmB⟩)
        clear h1
        go_wp2_with (refine wpList_load_row rfl 56 _ rfl B rfl 56 (mx (8 * 2 ^ k)) (0, 0) _ HM4.out.1 Tryd.underlying56 rfl (by rw [mx_size]; exact sizeMx) ?_)
        refine (HSQ.out _).mono ?_
        rintro v5 w5 ⟨rfl, hB5⟩
        have hm5 : w5.heap[B]? = some (.cells (mx (8 * 2 ^ k)) 56 (0, 0)) := (hB5.block B HM4.out.2.2.2).trans HM4.out.1
        have hst := run_store_row (P := Tryd.prog) (cs := mx (8 * 2 ^ (k + 1))) hm5 (by rw [mx_size, mx_size]) (int_cells _ _)
        have HF := Lib.hid (And.intro hm5 (HM4.out.2.1.trans (hB5.mono HM4.out.2.1.size)))
        clear hm5 hB5
        go_wp2_with fail
        go_roundg (gk - 1)
        case measure => have := HG.out; omega
        case rel => exact ⟨k + 1, _, by have := HG.out; omega, rfl, by go_num, HD2.out, setRow_heap _ _ _ _ _ _ HF.out.1, below_setRow HF.out.2 HM4.out.2.2.1 _, HM4.out.2.2.1⟩
    · have hkL : k = L := by omega
      have hfin := hd.fin (by rw [hkL]; exact HLS.out.1)
      have HX := Lib.hid (u32_x r b hd.1 HAB.out.2)
      have HF := Lib.hid (And.intro hfin hB)
      have hi : ¬ (k : Int) < (L : Int) := by omega
      clear hkL hfin hd hm hB hwB
      go_wp2_with fail
      go_ret
      exact ⟨by unfold comb; rw [← HF.out.1, ← HX.out]; rfl, HF.out.2⟩
set_option maxRecDepth 100000 in
set_option maxHeartbeats 1000000 in
theorem pcomb_neg (a b : Nat) (n : Int) (w : World) (tb : Tab w) (ha : a < 4294967296) (hb : b < 4294967296) (hn : n < 0) (hn2 : -9223372036854775808 ≤ n) :
    Calls Tryd.prog 18 #[.int .u32 a, .int .u32 b, .int .i64 n] w fun e w' => e = .returned (.int .u32 (comb a b 0)) ∧ Below w.heap.size w w' := by
  have hz := pzero_any w tb
  have HLN := Lib.hid (fun W => Tryd.bits_Len 0 W (by omega) (by omega))
  have HAB := Lib.hid (And.intro ha hb)
  clear tb ha hb
  go_enter Tryd.func18, Tryd.ntmps18
  go_wp2_with fail
  refine hz.mono ?_
  clear hz
  rintro r w1 ⟨rfl, hB1⟩
  go_wp2_with fail
  rw [run_store_row (cs := mx 8) (heap_alloc_new w1 _) (by rw [mx_size]; rfl) (int_cells _ _), World.setRow_alloc_new]
  have HX := Lib.hid (show Below w.heap.size w (w1.alloc (.cells (mx 8) 56)) from hB1.alloc hB1.size _)
  generalize w1.alloc (.cells (mx 8) 56) = w2 at HX
  clear hB1
  go_wp2_with fail
  rw [show max n 0 = 0 by omega]
  refine (HLN.out _).mono ?_
  rintro r w3 ⟨rfl, rfl⟩
  rw [show ((Lib.bitLen (0 : Int).toNat : Nat) : Int) = 0 from rfl]
  go_wp2_with fail
  go_loopg [7, 16] 0 (fun g x i wr => x = .int .u32 (a : Int) ∧ i = .int .i64 0 ∧ wr = w3)
  case atStart => exact ⟨rfl, rfl, rfl⟩
  case round =>
    obtain ⟨rfl, rfl, rfl⟩ := hrel
    have HXX := Lib.hid (u32_x a b HAB.out.1 HAB.out.2)
    go_wp2_with fail
    go_ret
    exact ⟨by unfold comb; rw [Nat.mul_zero, show st 0 a = a from rfl, ← HXX.out]; rfl, HX.out⟩
theorem pcomb_any (a b : Nat) (n : Int) (w : World) (tb : Tab w) (ha : a < 4294967296) (hb : b < 4294967296) (hn : -9223372036854775808 ≤ n ∧ n ≤ 9223372036854775807) :
    Calls Tryd.prog 18 #[.int .u32 a, .int .u32 b, .int .i64 n] w fun e w' => e = .returned (.int .u32 (comb a b n.toNat)) ∧ Below w.heap.size w w' := by
  by_cases h : n < 0
  · rw [show n.toNat = 0 by omega]
    exact pcomb_neg a b n w tb ha hb h hn.1
  · obtain ⟨m, rfl⟩ : ∃ m : Nat, n = m := ⟨n.toNat, by omega⟩
    exact pcomb_pos a b m w tb ha hb (by omega)
end C
end Go.Proofs.YtpkhbglmbdpodaaDoor
