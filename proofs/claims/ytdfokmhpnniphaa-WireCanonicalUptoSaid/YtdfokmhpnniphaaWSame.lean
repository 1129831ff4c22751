/-
  SameBytes and SameInts: whether two slices read as the same list.
-/
import Derived.Test.YtdfokmhpnniphaaWRef
import Derived.Deep.QuietTactic
import Derived.BigQuiet
import Derived.WalkSmall
namespace Go.Proofs.Ytdfokmhpnniphaa
open Go.RowKit
namespace W
open H

set_option linter.unusedVariables false

theorem take_same {xs bs : List Int} {k : Nat} (h : xs.take k = bs.take k) {x y : Int} (hx : xs[k]? = some x) (hy : bs[k]? = some y) (e : x = y) : xs.take (k + 1) = bs.take (k + 1) := by
  subst e
  rw [List.take_add_one, List.take_add_one, h, hx, hy]
theorem take_diff {xs bs : List Int} {k : Nat} {x y : Int} (hx : xs[k]? = some x) (hy : bs[k]? = some y) (e : ¬ x = y) : xs ≠ bs := by
  rintro rfl
  rw [hx] at hy
  exact e (Option.some.inj hy)

set_option maxHeartbeats 1000000 in
theorem sameB_any (A A' : Option Addr) (n n' c c' : Nat) (xs bs : List Int) (w : World) (hl : xs.length = n) (hl' : bs.length = n') (hn : n ≤ 140737488351232) (hr : RdI w w.heap.size .u8 A xs) (hr' : RdI w w.heap.size .u8 A' bs) :
    Calls Try.prog 13 #[.slice A n c, .slice A' n' c'] w fun e w' => e = .returned (.bool (decide (xs = bs))) ∧ Below w.heap.size w w' := by
  have HL := Lib.hid hl
  have HL' := Lib.hid hl'
  have HR := Lib.hid hr
  have HR' := Lib.hid hr'
  clear hl hl' hr hr'
  by_cases hnn : n = n'
  · subst hnn
    go_enter Try.func13, Try.ntmps13
    go_wp2
    go_loopw [5] (fun i wr => ∃ k : Nat, k ≤ n ∧ i = .int .i64 k ∧ xs.take k = bs.take k ∧ Below w.heap.size w wr) (fun i _ => n - (intOf i).toNat)
    case atStart => exact ⟨0, by omega, rfl, by simp, Below.refl _ _⟩
    case round =>
      obtain ⟨k, hk, rfl, ht, hB⟩ := hrel
      have HT := Lib.hid ht
      clear ht
      by_cases hlt : k < n
      · obtain ⟨ad, rfl, _, hx⟩ := HR.out.below hB k (by rw [HL.out]; exact hlt)
        obtain ⟨bd, rfl, _, hy⟩ := HR'.out.below hB k (by rw [HL'.out]; exact hlt)
        have gx : xs[k]? = some (xs[k]?.getD 0) := by rw [List.getElem?_eq_getElem (by rw [HL.out]; exact hlt)]; rfl
        have gy : bs[k]? = some (bs[k]?.getD 0) := by rw [List.getElem?_eq_getElem (by rw [HL'.out]; exact hlt)]; rfl
        generalize xs[k]?.getD 0 = x at hx gx
        generalize bs[k]?.getD 0 = y at hy gy
        have GX := Lib.hid gx
        have GY := Lib.hid gy
        clear gx gy
        have hk0 : (0 : Int) ≤ (k : Int) := by omega
        have hk1 : (k : Int) < (n : Int) := by omega
        by_cases hxy : x = y
        · have h1 : (x != y) = false := by simpa using hxy
          have HXY := Lib.hid hxy
          clear hxy
          go_wp2
          go_quiet (fail)
          go_wp2
          go_roundw
          case rel => exact ⟨k + 1, by omega, by go_num, take_same HT.out GX.out GY.out HXY.out, below_drewN hB _⟩
          case measure => simp [intOf]; omega
        · have h1 : (x != y) = true := by simpa using hxy
          have HXY := Lib.hid hxy
          clear hxy
          go_wp2
          go_quiet (fail)
          go_wp2
          go_ret
          refine ⟨?_, below_drewN hB _⟩
          rw [decide_eq_false (take_diff GX.out GY.out HXY.out)]
          rfl
      · go_wp2
        go_ret
        refine ⟨?_, hB⟩
        have ht := HT.out
        rw [List.take_of_length_le (by rw [HL.out]; omega), List.take_of_length_le (by rw [HL'.out]; omega)] at ht
        rw [decide_eq_true ht]
        rfl
  · have hne : decide (xs = bs) = false := by
      rw [decide_eq_false_iff_not]
      rintro rfl
      exact hnn (HL.out.symm.trans HL'.out)
    rw [hne]
    clear hne
    have h1 : ((n : Int) != n') = true := by simp; omega
    clear hnn
    go_enter Try.func13, Try.ntmps13
    go_wp2
    go_ret
    exact ⟨rfl, Below.refl _ _⟩

set_option maxHeartbeats 1000000 in
theorem sameI_any (A A' : Option Addr) (n n' c c' : Nat) (xs bs : List Int) (w : World) (hl : xs.length = n) (hl' : bs.length = n') (hn : n ≤ 140737488351232) (hr : RdI w w.heap.size .i64 A xs) (hr' : RdI w w.heap.size .i64 A' bs) :
    Calls Try.prog 29 #[.slice A n c, .slice A' n' c'] w fun e w' => e = .returned (.bool (decide (xs = bs))) ∧ Below w.heap.size w w' := by
  have HL := Lib.hid hl
  have HL' := Lib.hid hl'
  have HR := Lib.hid hr
  have HR' := Lib.hid hr'
  clear hl hl' hr hr'
  by_cases hnn : n = n'
  · subst hnn
    go_enter Try.func29, Try.ntmps29
    go_wp2
    go_loopw [5] (fun i wr => ∃ k : Nat, k ≤ n ∧ i = .int .i64 k ∧ xs.take k = bs.take k ∧ Below w.heap.size w wr) (fun i _ => n - (intOf i).toNat)
    case atStart => exact ⟨0, by omega, rfl, by simp, Below.refl _ _⟩
    case round =>
      obtain ⟨k, hk, rfl, ht, hB⟩ := hrel
      have HT := Lib.hid ht
      clear ht
      by_cases hlt : k < n
      · obtain ⟨ad, rfl, _, hx⟩ := HR.out.below hB k (by rw [HL.out]; exact hlt)
        obtain ⟨bd, rfl, _, hy⟩ := HR'.out.below hB k (by rw [HL'.out]; exact hlt)
        have gx : xs[k]? = some (xs[k]?.getD 0) := by rw [List.getElem?_eq_getElem (by rw [HL.out]; exact hlt)]; rfl
        have gy : bs[k]? = some (bs[k]?.getD 0) := by rw [List.getElem?_eq_getElem (by rw [HL'.out]; exact hlt)]; rfl
        generalize xs[k]?.getD 0 = x at hx gx
        generalize bs[k]?.getD 0 = y at hy gy
        have GX := Lib.hid gx
        have GY := Lib.hid gy
        clear gx gy
        have hk0 : (0 : Int) ≤ (k : Int) := by omega
        have hk1 : (k : Int) < (n : Int) := by omega
        by_cases hxy : x = y
        · have h1 : (x != y) = false := by simpa using hxy
          have HXY := Lib.hid hxy
          clear hxy
          go_wp2
          go_quiet (fail)
          go_wp2
          go_roundw
          case rel => exact ⟨k + 1, by omega, by go_num, take_same HT.out GX.out GY.out HXY.out, below_drewN hB _⟩
          case measure => simp [intOf]; omega
        · have h1 : (x != y) = true := by simpa using hxy
          have HXY := Lib.hid hxy
          clear hxy
          go_wp2
          go_quiet (fail)
          go_wp2
          go_ret
          refine ⟨?_, below_drewN hB _⟩
          rw [decide_eq_false (take_diff GX.out GY.out HXY.out)]
          rfl
      · go_wp2
        go_ret
        refine ⟨?_, hB⟩
        have ht := HT.out
        rw [List.take_of_length_le (by rw [HL.out]; omega), List.take_of_length_le (by rw [HL'.out]; omega)] at ht
        rw [decide_eq_true ht]
        rfl
  · have hne : decide (xs = bs) = false := by
      rw [decide_eq_false_iff_not]
      rintro rfl
      exact hnn (HL.out.symm.trans HL'.out)
    rw [hne]
    clear hne
    have h1 : ((n : Int) != n') = true := by simp; omega
    clear hnn
    go_enter Try.func29, Try.ntmps29
    go_wp2
    go_ret
    exact ⟨rfl, Below.refl _ _⟩

end W
end Go.Proofs.Ytdfokmhpnniphaa
