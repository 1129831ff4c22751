/-
  Contracts of the specification's functions of dimensions and quantities: Within, Valid, checked.
-/
import Derived.Test.YthcehhonahgfmaaDoorURef
namespace Go.Proofs.YthcehhonahgfmaaDoor
open Go.RowKit
namespace U
open H
set_option linter.unusedVariables false

set_option maxRecDepth 100000 in
set_option maxHeartbeats 1000000 in
theorem rexp_any (x : Dm) (w : World) :
    Calls Tryd.prog 41 #[.agg #[.int .i64 x.e, .int .i64 x.d, .int .i64 x.t, .int .i64 x.a, .int .i64 x.h]] w fun r w' => r = .returned (.slice (some ⟨w.heap.size + 1, 0, none⟩) 5 5) ∧ RdI w' w'.heap.size .i64 (some ⟨w.heap.size + 1, 0, none⟩) x.list ∧ Below w.heap.size w w' := by
  go_enter Tryd.func41, Tryd.ntmps41
  go_wp2_with fail
  go_ret
  refine ⟨rfl, ?_, bel2 w _ _⟩
  have h := RdI_lit (w.alloc (.cells #[.int .i64 x.e, .int .i64 x.d, .int .i64 x.t, .int .i64 x.a, .int .i64 x.h] 23)) .i64 3 #[.int .i64 x.e, .int .i64 x.d, .int .i64 x.t, .int .i64 x.a, .int .i64 x.h] x.list rfl
  have e : (w.alloc (.cells #[.int .i64 x.e, .int .i64 x.d, .int .i64 x.t, .int .i64 x.a, .int .i64 x.h] 23)).heap.size = w.heap.size + 1 := by simp
  rw [e] at h
  exact h
theorem list_in (x : Dm) (k : Int) : x.in k ↔ ∀ j, j < 5 → -k ≤ x.list[j]?.getD 0 ∧ x.list[j]?.getD 0 ≤ k := by
  constructor
  · intro h j hj
    obtain ⟨h0, h1, h2, h3, h4⟩ := h
    have : j = 0 ∨ j = 1 ∨ j = 2 ∨ j = 3 ∨ j = 4 := by omega
    rcases this with rfl | rfl | rfl | rfl | rfl
    · exact h0
    · exact h1
    · exact h2
    · exact h3
    · exact h4
  · intro h
    exact ⟨h 0 (by omega), h 1 (by omega), h 2 (by omega), h 3 (by omega), h 4 (by omega)⟩

set_option maxRecDepth 100000 in
set_option maxHeartbeats 1000000 in
theorem rwithin_any (x : Dm) (k : Int) (w : World) (hk : 0 ≤ k ∧ k ≤ 1000000) :
    Calls Tryd.prog 17 #[.agg #[.int .i64 x.e, .int .i64 x.d, .int .i64 x.t, .int .i64 x.a, .int .i64 x.h], .int .i64 k] w fun r w' => r = .returned (.bool (decide (x.in k))) ∧ Below w.heap.size w w' := by
  have hex := fun W => rexp_any x W
  have HE := Lib.hid hex
  clear hex
  go_enter Tryd.func17, Tryd.ntmps17
  go_wp2_with fail
  refine (HE.out _).mono ?_
  rintro r w1 ⟨rfl, hr, hB⟩
  have HR := Lib.hid hr
  have HB := Lib.hid ((bel1 w _).trans (hB.mono (by simp)))
  clear hr hB
  go_wp2_with fail
  go_loopg [6] 5 (fun g i wr => ∃ j : Nat, j + g = 5 ∧ i = .int .i64 j ∧ (∀ l, l < j → -k ≤ x.list[l]?.getD 0 ∧ x.list[l]?.getD 0 ≤ k) ∧ wr = w1)
  case atStart => exact ⟨0, rfl, rfl, fun l hl => by omega, rfl⟩
  case round =>
    obtain ⟨j, hg, rfl, hal, rfl⟩ := hrel
    have HG := Lib.hid hg
    have HA := Lib.hid hal
    have hj5 : j ≤ 5 := by omega
    clear hg hal
    by_cases hlt : j < 5
    · have hcell : wr.cell? ⟨w.heap.size + 1 + 1, j, none⟩ = some (.int .i64 (x.list[j]?.getD 0)) := by
        obtain ⟨ad, e, _, hc⟩ := HR.out j (by show j < 5; exact hlt)
        cases e
        have ea : (⟨(w.alloc (.cells #[.int .i64 x.e, .int .i64 x.d, .int .i64 x.t, .int .i64 x.a, .int .i64 x.h] 23)).heap.size + 1, 0, none⟩ : Addr).add j = ⟨w.heap.size + 1 + 1, j, none⟩ := by unfold Addr.add; split <;> simp_all
        rw [← ea]
        exact hc
      have hi : (j : Int) < 5 := by omega
      have hi0 : (0 : Int) ≤ (j : Int) := by omega
      obtain ⟨v, hv⟩ : ∃ v, x.list[j]?.getD 0 = v := ⟨_, rfl⟩
      rw [hv] at hcell
      have HV := Lib.hid hv
      clear hv
      by_cases h1 : v < -k
      · have hx : ¬ x.in k := fun h => by have := (list_in x k).1 h j hlt; rw [HV.out] at this; omega
        have HX := Lib.hid (decide_eq_false hx)
        clear hx hlt
        go_wp2_with fail
        go_ret
        exact ⟨by rw [HX.out]; rfl, HB.out⟩
      · have h1b : decide (v < -k) = false := by simpa using h1
        by_cases h2 : k < v
        · have hx : ¬ x.in k := fun h => by have := (list_in x k).1 h j hlt; rw [HV.out] at this; omega
          have HX := Lib.hid (decide_eq_false hx)
          clear hx hlt
          go_wp2_with fail
          go_ret
          exact ⟨by rw [HX.out]; rfl, HB.out⟩
        · have HL := Lib.hid hlt
          clear hlt
          go_wp2_with fail
          go_roundg (gk - 1)
          case measure => have := HG.out; have := HL.out; omega
          case rel =>
            refine ⟨j + 1, by have := HG.out; have := HL.out; omega, by go_num, fun l hl => ?_, rfl⟩
            by_cases hlj : l = j
            · rw [hlj, HV.out]; omega
            · exact HA.out l (by omega)
    · have hj : j = 5 := by omega
      have HX := Lib.hid (decide_eq_true ((list_in x k).2 (by rw [← hj]; exact HA.out)))
      have hi : ¬ (j : Int) < 5 := by omega
      clear hj
      go_wp2_with fail
      go_ret
      exact ⟨by rw [HX.out]; rfl, HB.out⟩
end U
end Go.Proofs.YthcehhonahgfmaaDoor
