/-
  The program's matrices: the effect of zero bytes on the register.
-/
import Derived.Test.YtpkhbglmbdpodaaDoorCFeed
import Derived.Test.YtpkhbglmbdpodaaDoorArr
namespace Go.Proofs.YtpkhbglmbdpodaaDoor
open Go.RowKit
namespace C
open H
set_option linter.unusedVariables false

theorem sizeMx : (Tryd.prog.info? 56).map (·.size) = some 32 := by kernel_rfl
def cols (n : Nat) : List Int := (List.range 32).map fun i => ((st n (2 ^ i) : Nat) : Int)
/-- The matrix of n steps. -/
def mx (n : Nat) : Array Value := ((cols n).map (Value.int .u32)).toArray
theorem mx_size (n : Nat) : (mx n).size = 32 := by simp [mx, cols]
theorem mx_at {n k : Nat} (h : k < 32) : (mx n)[k]? = some (.int .u32 ((st n (2 ^ k) : Nat) : Int)) := by
  unfold mx cols
  rw [List.getElem?_toArray, List.getElem?_map, List.getElem?_map, List.getElem?_range h]
  rfl
theorem bit_test {r k : Nat} (hr : r < 4294967296) : bits .and .u32 ((r : Int) / 2 ^ k) 1 = ((r / 2 ^ k % 2 : Nat) : Int) := by
  have hlt : r / 2 ^ k < 4294967296 := Nat.lt_of_le_of_lt (Nat.div_le_self _ _) hr
  have e := u32_and_nat (r / 2 ^ k) 1 hlt (by decide)
  rw [Nat.and_one_is_mod] at e
  rw [show (r : Int) / 2 ^ k = ((r / 2 ^ k : Nat) : Int) by simp]
  exact e

theorem mulK_32lt (n r : Nat) : ∀ k, r < 4294967296 → mulK (fun i => st n (2 ^ i)) r k < 4294967296 := fun k hr => by
  rw [mulK_st]
  exact st_lt (Nat.lt_of_le_of_lt (Nat.mod_le _ _) hr) n

def zpow (k : Nat) : Nat := st 8 (2 ^ k)
theorem zpow_st (k : Nat) : zpow k = st 8 (2 ^ k) := rfl
theorem two_pow32 {k : Nat} (h : k < 32) : (2 : Int) ^ k % 4294967296 = ((2 ^ k : Nat) : Int) := by
  have hp : 2 ^ k < 4294967296 := Nat.pow_lt_pow_right (a := 2) (by decide) h
  have e : ((2 ^ k : Nat) : Int) = (2 : Int) ^ k := by simp
  rw [← e]
  exact Int.emod_eq_of_lt (Int.natCast_nonneg _) (Int.ofNat_lt.2 hp)
set_option maxRecDepth 100000 in
set_option maxHeartbeats 1000000 in
theorem papply_any (n r : Nat) (w : World) (hr : r < 4294967296) :
    Calls Tryd.prog 35 #[.agg (mx n), .int .u32 r] w fun e w' => e = .returned (.int .u32 (st n r)) ∧ Below w.heap.size w w' := by
  have HRR := Lib.hid hr
  clear hr
  go_enter Tryd.func35, Tryd.ntmps35
  go_wp2_with fail
  go_loopg [5, 7] 32 (fun g x i wr => ∃ k : Nat, k + g = 32 ∧ x = .int .u32 (mulK (fun i => st n (2 ^ i)) r k) ∧ i = .int .i64 k ∧ wr.heap[w.heap.size]? = some (.cells (mx n) 56 (0, 0)) ∧ Below w.heap.size w wr)
  case atStart => exact ⟨0, Nat.zero_add _, rfl, rfl, heap_alloc_new _ _, (Below.refl _ _).alloc (Nat.le_refl _) _⟩
  case round =>
    obtain ⟨k, hg, rfl, rfl, hm, hB⟩ := hrel
    have HG := Lib.hid hg
    have hk : k ≤ 32 := by omega
    clear hg
    by_cases hlt : k < 32
    · have hcell : wr.cell? ⟨w.heap.size, k, none⟩ = some (.int .u32 ((st n (2 ^ k) : Nat) : Int)) := by rw [cell_of_row wr w.heap.size k _ _ _ hm, mx_at hlt]
      have hbt := bit_test (k := k) HRR.out
      have hi : (k : Int) < 32 := by omega
      have hml := mulK_32lt n r k HRR.out
      have hstl : st n (2 ^ k) < 4294967296 := st_lt (by have := Nat.pow_lt_pow_right (a := 2) (by decide) hlt; exact this) n
      have HH := Lib.hid (And.intro hm hB)
      clear hm hB
      by_cases h1 : r / 2 ^ k % 2 = 1
      · have hx := u32_x _ _ hml hstl
        have HS := Lib.hid (mulK_one (c := fun i => st n (2 ^ i)) h1)
        generalize mulK (fun i => st n (2 ^ i)) r k = v at *
        generalize st n (2 ^ k) = cv at *
        have HX := Lib.hid hx
        clear hml hstl hx
        rw [h1] at hbt
        have H1 := Lib.hid h1
        clear h1
        go_wp2_with fail
        go_roundg (gk - 1)
        case measure => have := HG.out; omega
        case rel => exact ⟨k + 1, by have := HG.out; omega, by rw [HX.out, HS.out], by go_num, HH.out.1, HH.out.2⟩
      · have HS := Lib.hid (mulK_zero (c := fun i => st n (2 ^ i)) h1)
        rw [show r / 2 ^ k % 2 = 0 by omega] at hbt
        generalize mulK (fun i => st n (2 ^ i)) r k = v at *
        clear hml hstl h1
        go_wp2_with fail
        go_roundg (gk - 1)
        case measure => have := HG.out; omega
        case rel => exact ⟨k + 1, by have := HG.out; omega, by rw [HS.out], by go_num, HH.out.1, HH.out.2⟩
    · have hk : k = 32 := by omega
      have HS := Lib.hid (show mulK (fun i => st n (2 ^ i)) r k = st n r by rw [hk]; exact mulK_32 HRR.out)
      have hi : ¬ (k : Int) < 32 := by omega
      have HB := Lib.hid hB
      clear hk hm hB
      generalize mulK (fun i => st n (2 ^ i)) r k = v at *
      go_wp2_with fail
      go_ret
      exact ⟨by rw [← HS.out]; rfl, HB.out⟩

/-- The array's cells are those of the matrix of n steps up to place k. -/
def Upto (cs : Array Value) (n k : Nat) : Prop := cs.size = 32 ∧ ∀ j, j < k → cs[j]? = (mx n)[j]?
theorem Upto.step {cs : Array Value} {n k : Nat} (h : Upto cs n k) (hk : k < 32) {z : Nat} (hz : z = st n (2 ^ k)) : Upto (cs.setIfInBounds k (.int .u32 (z : Int))) n (k + 1) := by
  refine ⟨by rw [Array.size_setIfInBounds]; exact h.1, fun j hj => ?_⟩
  rw [Array.getElem?_setIfInBounds]
  by_cases hjk : k = j
  · subst hjk
    rw [if_pos rfl, if_pos (by rw [h.1]; omega), mx_at hk, hz]
  · rw [if_neg hjk]
    exact h.2 j (by omega)
theorem Upto.full {cs : Array Value} {n : Nat} (h : Upto cs n 32) : cs = mx n := by
  apply Array.ext_getElem?
  intro j
  by_cases hj : j < 32
  · exact h.2 j hj
  · rw [Array.getElem?_eq_none (by rw [h.1]; omega), Array.getElem?_eq_none (by rw [mx_size]; omega)]
theorem Upto.cell {cs : Array Value} {n m k : Nat} (h : Upto cs n m) (hk : k < 32) : ∃ v, cs[k]? = some v := ⟨cs[k]'(by rw [h.1]; exact hk), by rw [Array.getElem?_eq_getElem]⟩

set_option maxRecDepth 100000 in
set_option maxHeartbeats 1000000 in
theorem pzero_any (w : World) (tb : Tab w) :
    Calls Tryd.prog 33 #[] w fun e w' => e = .returned (.agg (mx 8)) ∧ Below w.heap.size w w' := by
  have hpos := tb.pos
  have TB := Lib.hid tb
  have HP := Lib.hid hpos
  clear tb hpos
  go_enter Tryd.func33, Tryd.ntmps33
  go_wp2_with fail
  go_loopg [3] 32 (fun g i wr => ∃ k : Nat, k + g = 32 ∧ i = .int .i64 k ∧ (∃ z, wr.heap[w.heap.size]? = some (.cells z 56 (0, 0)) ∧ z.size = 32) ∧ (∃ cs, wr.heap[w.heap.size + 1]? = some (.cells cs 56 (0, 0)) ∧ Upto cs 8 k) ∧ Below w.heap.size w wr ∧ w.heap.size + 2 ≤ wr.heap.size)
  case atStart => exact ⟨0, Nat.zero_add _, rfl, ⟨_, heap_alloc2_old _ _ _, rfl⟩, ⟨_, heap_alloc2_new _ _ _, rfl, fun j hj => by omega⟩, ((Below.refl _ _).alloc (Nat.le_refl _) _).alloc (by simp) _, by simp⟩
  case round =>
    obtain ⟨k, hg, rfl, ⟨z, hz, hzs⟩, ⟨cs, hc, hu⟩, hB, hsz⟩ := hrel
    have HG := Lib.hid hg
    have hk : k ≤ 32 := by omega
    by_cases hlt : k < 32
    · have hcell := cell_of_row wr (w.heap.size + 1) k cs _ _ hc
      have hfr := free_row (i := k) hc
      obtain ⟨v0, hv0⟩ := hu.cell hlt
      rw [hv0] at hcell
      have hi : (k : Int) < 32 := by omega
      have hp : 2 ^ k < 4294967296 := Nat.pow_lt_pow_right (a := 2) (by decide) hlt
      have hB1 : Below w.heap.size w (wr.alloc (.cells #[.int .u8 0] 5)) := hB.alloc (by omega) _
      have hf := pfeed_any (2 ^ k) (some ⟨wr.heap.size, 0, none⟩) 1 1 [0] (wr.alloc (.cells #[.int .u8 0] 5)) (TB.out.below HP.out hB1) hp rfl (by decide) (by intro b hb; simp at hb; omega) (RdI_lit wr .u8 _ _ [0] rfl)
      have hst : reg (2 ^ k) (nats [0]) = st 8 (2 ^ k) := by show st 8 (2 ^ k ^^^ 0) = _; rw [Nat.xor_zero]
      have HH := Lib.hid (And.intro (And.intro hz hzs) (And.intro hc (And.intro hu (And.intro hB1 hsz))))
      rw [← zpow_st k] at hst
      have HST := Lib.hid hst
      have HK := Lib.hid hlt
      have HPK := Lib.hid (two_pow32 hlt)
      generalize reg (2 ^ k) (nats [0]) = y at *
      generalize 2 ^ k = pk at *
      clear hg hz hzs hc hu hB hv0 hsz hB1 hst hlt
      go_wp2_with fail
      rw [HPK.out]
      refine hf.mono ?_
      clear hf
      rintro r w2 ⟨rfl, hw2⟩
      have hb2 : ∀ b, b < wr.heap.size → w2.heap[b]? = wr.heap[b]? := fun b hb => by { rw [hw2]; exact Below.heap_alloc _ _ _ hb }
      have hc2 : w2.heap[w.heap.size + 1]? = some (.cells cs 56 (0, 0)) := by rw [hb2 _ (by have := HH.out.2.2.2.2; omega)]; exact HH.out.2.1
      have hz2 : w2.heap[w.heap.size]? = some (.cells z 56 (0, 0)) := by rw [hb2 _ (by have := HH.out.2.2.2.2; omega)]; exact HH.out.1.1
      have hs2 : wr.heap.size < w2.heap.size := by rw [hw2]; simp
      have hB2 : Below w.heap.size w w2 := by rw [hw2]; exact HH.out.2.2.2.1
      have hcell2 : w2.cell? ⟨w.heap.size + 1, k, none⟩ = some v0 := by rw [cell_of_row w2 _ k cs _ _ hc2, ← cell_of_row wr _ k cs _ _ HH.out.2.1]; exact hcell
      have hfr2 := free_row (i := k) hc2
      have HH2 := Lib.hid (And.intro hc2 (And.intro hz2 (And.intro hs2 hB2)))
      clear hb2 hc2 hz2 hs2 hB2 hw2 hcell hfr
      go_wp2_with fail
      go_roundg (gk - 1)
      case measure => have := HG.out; omega
      case rel =>
        obtain ⟨hc2, hz2, hs2, hB2⟩ := HH2.out
        refine ⟨k + 1, by have := HG.out; omega, by go_num, ⟨z, by rw [heap_setCell_other _ _ _ _ (by show w.heap.size ≠ w.heap.size + 1; omega)]; exact hz2, HH.out.1.2⟩, ⟨_, Joins.block_setCell hc2 _, HH.out.2.2.1.step HK.out HST.out⟩, hB2.setCell (by show w.heap.size ≤ w.heap.size + 1; omega) _, by rw [World.size_setCell]; have := HH.out.2.2.2.2; omega⟩
    · have hk : k = 32 := by omega
      subst hk
      have hcs := hu.full
      subst hcs
      have HH := Lib.hid (And.intro hz (And.intro hzs (And.intro hc hB)))
      clear hg hz hzs hc hu hB hlt hsz
      have hst := run_store_row (P := Tryd.prog) HH.out.1 (show (mx 8).size = z.size by rw [mx_size, HH.out.2.1]) (int_cells _ _)
      go_wp2_with (refine wpList_load_row rfl 56 _ rfl (w.heap.size + 1) rfl 56 (mx 8) (0, 0) _ HH.out.2.2.1 Tryd.underlying56 rfl (by rw [mx_size]; exact sizeMx) ?_)
      refine bodyPost_ret (v := .agg (mx 8)) (results_cell_row (ty := 56) rfl _ _ w.heap.size 56 (mx 8) (0, 0) _ rfl (setRow_heap _ _ _ _ _ _ HH.out.1) Tryd.underlying56 rfl (by rw [mx_size]; exact sizeMx)) rfl ⟨rfl, below_setRow HH.out.2.2.2 (Nat.le_refl _) _⟩
end C
end Go.Proofs.YtpkhbglmbdpodaaDoor
