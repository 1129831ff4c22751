/-
  The program's sumBytes: the four bytes of a checksum, as an array.
-/
import Derived.Test.YtpkhbglmbdpodaaDoorCRef
import Derived.Deep.LoopGhost
import Derived.Test.YtpkhbglmbdpodaaDoorArr
namespace Go.Proofs.YtpkhbglmbdpodaaDoor
open Go.RowKit
namespace C
open H
set_option linter.unusedVariables false

theorem size61 : (Tryd.prog.info? 61).map (·.size) = some 4 := by kernel_rfl
theorem shr_byte (d k : Nat) : (le4 d)[k]?.getD 0 = if k < 4 then d / 2 ^ (8 * k) % 256 else 0 := by
  by_cases h : k < 4
  · rw [if_pos h]
    have : k = 0 ∨ k = 1 ∨ k = 2 ∨ k = 3 := by omega
    rcases this with rfl | rfl | rfl | rfl
    · show d % 256 = _; omega
    · show d / 256 % 256 = _; rfl
    · show d / 256 / 256 % 256 = d / 65536 % 256; omega
    · show d / 256 / 256 / 256 % 256 = d / 16777216 % 256; omega
  · rw [if_neg h, List.getElem?_eq_none (by rw [le4, digits_len]; omega)]
    rfl
/-- The array of the four bytes. -/
def arr4 (d : Nat) : Array Value := ((ints (le4 d)).map (Value.int .u8)).toArray

theorem arr4_at {d k : Nat} (h : k < 4) : (arr4 d)[k]? = some (.int .u8 ((d : Int) / 2 ^ (8 * k) % 256)) := by
  unfold arr4
  have h2 : (le4 d)[k]? = some (d / 2 ^ (8 * k) % 256) := by
    have hl : k < (le4 d).length := by rw [le4, digits_len]; exact h
    have := shr_byte d k
    rw [List.getElem?_eq_getElem hl] at this ⊢
    rw [if_pos h] at this
    exact congrArg some this
  rw [List.getElem?_toArray, List.getElem?_map, ints, List.getElem?_map, h2]
  simp
theorem arr4_size (d : Nat) : (arr4 d).size = 4 := by simp [arr4, ints, le4, digits_len]

set_option maxRecDepth 100000 in
set_option maxHeartbeats 1000000 in
theorem psb_any (d : Nat) (w : World) (hd : d < 4294967296) :
    Calls Tryd.prog 38 #[.int .u32 d] w fun e w' => e = .returned (.agg (arr4 d)) ∧ Below w.heap.size w w' := by
  have HD := Lib.hid hd
  clear hd
  go_enter Tryd.func38, Tryd.ntmps38
  go_wp2_with fail
  go_loopg [5] 4 (fun g i wr => ∃ k : Nat, k + g = 4 ∧ i = .int .i64 k ∧ (∃ z, wr.heap[w.heap.size]? = some (.cells z 61 (0, 0)) ∧ z.size = 4) ∧ (∃ cs, wr.heap[w.heap.size + 1]? = some (.cells cs 61 (0, 0)) ∧ cs.size = 4 ∧ ∀ j, j < k → cs[j]? = (arr4 d)[j]?) ∧ Below w.heap.size w wr)
  case atStart => exact ⟨0, Nat.zero_add _, rfl, ⟨_, heap_alloc2_old _ _ _, rfl⟩, ⟨_, heap_alloc2_new _ _ _, rfl, fun j hj => by omega⟩, ((Below.refl _ _).alloc (Nat.le_refl _) _).alloc (by simp) _⟩
  case round =>
    obtain ⟨k, hg, rfl, ⟨z, hz, hzs⟩, ⟨cs, hc, hcs, hcj⟩, hB⟩ := hrel
    have HG := Lib.hid hg
    have hk4 : k ≤ 4 := by omega
    by_cases hlt : k < 4
    · have hcell := cell_of_row wr (w.heap.size + 1) k cs _ _ hc
      have hfr : wr.frozen? ⟨w.heap.size + 1, k, none⟩ = false := by simp [World.frozen?, hc]
      obtain ⟨v0, hv0⟩ : ∃ v0, cs[k]? = some v0 := ⟨cs[k], by rw [Array.getElem?_eq_getElem]⟩
      rw [hv0] at hcell
      have hi : (k : Int) < 4 := by omega
      have hkk : k < 4 := hlt
      have HH := Lib.hid (And.intro (And.intro hz hzs) (And.intro hc (And.intro hcs (And.intro hcj hB))))
      clear hg hz hzs hc hcs hcj hB hv0
      go_wp2_with fail
      go_roundg (gk - 1)
      case measure => have := HG.out; omega
      case rel =>
        obtain ⟨⟨hz, hzs⟩, hc, hcs, hcj, hB⟩ := HH.out
        refine ⟨k + 1, by have := HG.out; omega, by go_num, ⟨z, by rw [heap_setCell_other _ _ _ _ (by show w.heap.size ≠ w.heap.size + 1; omega)]; exact hz, hzs⟩, ⟨_, Joins.block_setCell hc _, by simp [hcs], fun j hj => ?_⟩, hB.setCell (by show w.heap.size ≤ w.heap.size + 1; omega) _⟩
        rw [Array.getElem?_setIfInBounds]
        by_cases hjk : k = j
        · subst hjk
          rw [if_pos rfl, if_pos (by omega), arr4_at hlt]
        · rw [if_neg hjk]
          exact hcj j (by omega)
    · have hk : k = 4 := by omega
      subst hk
      have hcs4 : cs = arr4 d := by
        apply Array.ext_getElem?
        intro j
        by_cases hj : j < 4
        · exact hcj j hj
        · rw [Array.getElem?_eq_none (by omega), Array.getElem?_eq_none (by rw [arr4_size]; omega)]
      subst hcs4
      have HH := Lib.hid (And.intro hz (And.intro hzs (And.intro hc hB)))
      clear hg hz hzs hc hcs hcj hB hlt HD
      have hst := run_store_row (P := Tryd.prog) HH.out.1 (show (arr4 d).size = z.size by rw [arr4_size, HH.out.2.1]) (int_cells _ _)
      go_wp2_with (refine wpList_load_row rfl 61 _ rfl (w.heap.size + 1) rfl 61 (arr4 d) (0, 0) _ HH.out.2.2.1 Tryd.underlying61 rfl (by rw [arr4_size]; exact size61) ?_)
      refine bodyPost_ret (v := .agg (arr4 d)) (results_cell_row (ty := 61) rfl _ _ w.heap.size 61 (arr4 d) (0, 0) _ rfl (setRow_heap _ _ _ _ _ _ HH.out.1) Tryd.underlying61 rfl (by rw [arr4_size]; exact size61)) rfl ⟨rfl, below_setRow HH.out.2.2.2 (Nat.le_refl _) _⟩
end C
end Go.Proofs.YtpkhbglmbdpodaaDoor
