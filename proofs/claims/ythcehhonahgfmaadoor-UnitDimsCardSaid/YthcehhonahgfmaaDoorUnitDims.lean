/-
  For all two dimensions, UnitDims returns true: of exponents from -1000 to 1000 Times and Over return what the specification says, and dividing a product by a factor yields the other one.
-/
import Derived.Test.YthcehhonahgfmaaDoorULaw
namespace Go.Proofs.YthcehhonahgfmaaDoor.unitDims
open Go.ChangeShapes Go.WideShapes Go.ChangeAt Go.RowKit
open Go.ChangeMaps (open_string shut_string)
set_option linter.unusedVariables false
theorem U.stepD {w W W1 : World} {x0 x1 : U.Dm} (h : ((fun W1 => (∀ o, W1.cell? ⟨w.heap.size, o, none⟩ = (#[.int .i64 x0.e, .int .i64 x0.d, .int .i64 x0.t, .int .i64 x0.a, .int .i64 x0.h] : Array Value)[o]?) ∧ (∀ o, W1.cell? ⟨w.heap.size + 1, o, none⟩ = (#[.int .i64 x1.e, .int .i64 x1.d, .int .i64 x1.t, .int .i64 x1.a, .int .i64 x1.h] : Array Value)[o]?) ∧ w.heap.size + 1 < W1.heap.size ∧ Below w.heap.size w W1)) W) (hB : Below W.heap.size W W1) : ((fun W1 => (∀ o, W1.cell? ⟨w.heap.size, o, none⟩ = (#[.int .i64 x0.e, .int .i64 x0.d, .int .i64 x0.t, .int .i64 x0.a, .int .i64 x0.h] : Array Value)[o]?) ∧ (∀ o, W1.cell? ⟨w.heap.size + 1, o, none⟩ = (#[.int .i64 x1.e, .int .i64 x1.d, .int .i64 x1.t, .int .i64 x1.a, .int .i64 x1.h] : Array Value)[o]?) ∧ w.heap.size + 1 < W1.heap.size ∧ Below w.heap.size w W1)) W1 :=
  ⟨fun o => (hB.cell (p := ⟨w.heap.size, o, none⟩) (by have := h.2.2.1; show w.heap.size < _; omega)).trans (h.1 o), fun o => (hB.cell (p := ⟨w.heap.size + 1, o, none⟩) h.2.2.1).trans (h.2.1 o), Nat.lt_of_lt_of_le h.2.2.1 hB.size, h.2.2.2.trans (hB.mono h.2.2.2.size)⟩
theorem U.stepE {w W W1 : World} {B : Nat} {x0 x1 p : U.Dm} (h : ((fun W1 => (∀ o, W1.cell? ⟨w.heap.size, o, none⟩ = (#[.int .i64 x0.e, .int .i64 x0.d, .int .i64 x0.t, .int .i64 x0.a, .int .i64 x0.h] : Array Value)[o]?) ∧ (∀ o, W1.cell? ⟨w.heap.size + 1, o, none⟩ = (#[.int .i64 x1.e, .int .i64 x1.d, .int .i64 x1.t, .int .i64 x1.a, .int .i64 x1.h] : Array Value)[o]?) ∧ (∀ o, W1.cell? ⟨B, o, none⟩ = (#[.int .i64 p.e, .int .i64 p.d, .int .i64 p.t, .int .i64 p.a, .int .i64 p.h] : Array Value)[o]?) ∧ (w.heap.size + 1 < W1.heap.size ∧ B < W1.heap.size) ∧ Below w.heap.size w W1)) W) (hB : Below W.heap.size W W1) : ((fun W1 => (∀ o, W1.cell? ⟨w.heap.size, o, none⟩ = (#[.int .i64 x0.e, .int .i64 x0.d, .int .i64 x0.t, .int .i64 x0.a, .int .i64 x0.h] : Array Value)[o]?) ∧ (∀ o, W1.cell? ⟨w.heap.size + 1, o, none⟩ = (#[.int .i64 x1.e, .int .i64 x1.d, .int .i64 x1.t, .int .i64 x1.a, .int .i64 x1.h] : Array Value)[o]?) ∧ (∀ o, W1.cell? ⟨B, o, none⟩ = (#[.int .i64 p.e, .int .i64 p.d, .int .i64 p.t, .int .i64 p.a, .int .i64 p.h] : Array Value)[o]?) ∧ (w.heap.size + 1 < W1.heap.size ∧ B < W1.heap.size) ∧ Below w.heap.size w W1)) W1 :=
  ⟨fun o => (hB.cell (p := ⟨w.heap.size, o, none⟩) (by have := h.2.2.2.1.1; show w.heap.size < _; omega)).trans (h.1 o), fun o => (hB.cell (p := ⟨w.heap.size + 1, o, none⟩) h.2.2.2.1.1).trans (h.2.1 o), fun o => (hB.cell (p := ⟨B, o, none⟩) h.2.2.2.1.2).trans (h.2.2.1 o), ⟨Nat.lt_of_lt_of_le h.2.2.2.1.1 hB.size, Nat.lt_of_lt_of_le h.2.2.2.1.2 hB.size⟩, h.2.2.2.2.trans (hB.mono h.2.2.2.2.size)⟩
theorem U.startE {w W : World} {x0 x1 p : U.Dm} (h : ((fun W1 => (∀ o, W1.cell? ⟨w.heap.size, o, none⟩ = (#[.int .i64 x0.e, .int .i64 x0.d, .int .i64 x0.t, .int .i64 x0.a, .int .i64 x0.h] : Array Value)[o]?) ∧ (∀ o, W1.cell? ⟨w.heap.size + 1, o, none⟩ = (#[.int .i64 x1.e, .int .i64 x1.d, .int .i64 x1.t, .int .i64 x1.a, .int .i64 x1.h] : Array Value)[o]?) ∧ w.heap.size + 1 < W1.heap.size ∧ Below w.heap.size w W1)) W) : ((fun W1 => (∀ o, W1.cell? ⟨w.heap.size, o, none⟩ = (#[.int .i64 x0.e, .int .i64 x0.d, .int .i64 x0.t, .int .i64 x0.a, .int .i64 x0.h] : Array Value)[o]?) ∧ (∀ o, W1.cell? ⟨w.heap.size + 1, o, none⟩ = (#[.int .i64 x1.e, .int .i64 x1.d, .int .i64 x1.t, .int .i64 x1.a, .int .i64 x1.h] : Array Value)[o]?) ∧ (∀ o, W1.cell? ⟨W.heap.size, o, none⟩ = (#[.int .i64 p.e, .int .i64 p.d, .int .i64 p.t, .int .i64 p.a, .int .i64 p.h] : Array Value)[o]?) ∧ (w.heap.size + 1 < W1.heap.size ∧ W.heap.size < W1.heap.size) ∧ Below w.heap.size w W1)) (W.alloc (.cells #[.int .i64 p.e, .int .i64 p.d, .int .i64 p.t, .int .i64 p.a, .int .i64 p.h] 23)).drew :=
  ⟨fun o => by rw [show (W.alloc (.cells #[.int .i64 p.e, .int .i64 p.d, .int .i64 p.t, .int .i64 p.a, .int .i64 p.h] 23)).drew.cell? ⟨w.heap.size, o, none⟩ = (W.alloc (.cells #[.int .i64 p.e, .int .i64 p.d, .int .i64 p.t, .int .i64 p.a, .int .i64 p.h] 23)).cell? ⟨w.heap.size, o, none⟩ from rfl, World.cell?_alloc_past _ _ _ (by have := h.2.2.1; omega)]; exact h.1 o, fun o => by rw [show (W.alloc (.cells #[.int .i64 p.e, .int .i64 p.d, .int .i64 p.t, .int .i64 p.a, .int .i64 p.h] 23)).drew.cell? ⟨w.heap.size + 1, o, none⟩ = (W.alloc (.cells #[.int .i64 p.e, .int .i64 p.d, .int .i64 p.t, .int .i64 p.a, .int .i64 p.h] 23)).cell? ⟨w.heap.size + 1, o, none⟩ from rfl, World.cell?_alloc_past _ _ _ h.2.2.1]; exact h.2.1 o, fun o => cell_of_row (W.alloc (.cells #[.int .i64 p.e, .int .i64 p.d, .int .i64 p.t, .int .i64 p.a, .int .i64 p.h] 23)) W.heap.size o _ _ _ (heap_alloc_new W _), ⟨by have := h.2.2.1; show _ < (W.alloc (.cells #[.int .i64 p.e, .int .i64 p.d, .int .i64 p.t, .int .i64 p.a, .int .i64 p.h] 23)).heap.size; simp; omega, by show _ < (W.alloc (.cells #[.int .i64 p.e, .int .i64 p.d, .int .i64 p.t, .int .i64 p.a, .int .i64 p.h] 23)).heap.size; simp⟩, (h.2.2.2.alloc h.2.2.2.size _).drew⟩

set_option maxRecDepth 100000 in
set_option maxHeartbeats 1000000 in
theorem walk (x0 : U.Dm) (x1 : U.Dm) (w : World) (tb : U.Tab w) (ok0 : x0.ok) (ok1 : x1.ok) :
    Calls Tryd.prog 4 #[.agg #[.int .i64 x0.e, .int .i64 x0.d, .int .i64 x0.t, .int .i64 x0.a, .int .i64 x0.h], .agg #[.int .i64 x1.e, .int .i64 x1.d, .int .i64 x1.t, .int .i64 x1.a, .int .i64 x1.h]] w fun e w' => e = .returned (.bool true) ∧ Below w.heap.size w w' := by
  have TB := Lib.hid tb
  have HLV := Lib.hid (fun W (h : Below w.heap.size w W) => U.ulives_any W (TB.out.below h))
  have HV0 := Lib.hid (fun W => U.rwithin_any x0 1000 W (by omega))
  have HV1 := Lib.hid (fun W => U.rwithin_any x1 1000 W (by omega))
  clear tb
  by_cases hv0 : x0.in 1000
  · rw [decide_eq_true hv0] at HV0
    by_cases hv1 : x1.in 1000
    · rw [decide_eq_true hv1] at HV1
      have HT := Lib.hid (fun W (h : Below w.heap.size w W) => U.ptimes_w x0 x1 W (TB.out.below h) hv0 hv1)
      have HRT := Lib.hid (fun W => U.rtimes_any x0 x1 W (by unfold U.Dm.in at *; omega) (by unfold U.Dm.in at *; omega))
      have HO := Lib.hid (fun W (h : Below w.heap.size w W) => U.pover_w x0 x1 W (TB.out.below h) hv0 hv1)
      have HRO := Lib.hid (fun W => U.rover_any x0 x1 W hv0 hv1)
      have hto := U.times_over x0 x1
      obtain ⟨p, hp⟩ : ∃ p, x0.times x1 = p := ⟨_, rfl⟩
      rw [hp] at HT HRT hto
      have HWP := Lib.hid (fun W => U.rwithin_any p 1000 W (by omega))
      have HO2 := fun (hpi : p.in 1000) => Lib.hid (fun W (h : Below w.heap.size w W) => U.pover_w p x1 W (TB.out.below h) hpi hv1)
      rw [hto] at HO2
      generalize x0.over x1 = q at *
      have HP := Lib.hid hp
      clear hp hto hv0 hv1 ok0 ok1
      go_enter Tryd.func4, Tryd.ntmps4
      go_wp2_with fail
      refine (HV0.out _).mono ?_
      rintro r w1 ⟨rfl, hB⟩
      obtain ⟨hc1, hf1⟩ := U.bcell hB
      have hsz := hB.size
      try simp at hsz
      have hz1_0 : w.heap.size < w1.heap.size := by omega
      have hz1_1 : w.heap.size + 1 < w1.heap.size := by omega
      clear hsz
      have HB1 := Lib.hid ((U.bel2 w _ _).trans (hB.mono (U.bel2 w _ _).size))
      clear hB
      go_wp2_with fail
      refine (HV1.out _).mono ?_
      rintro r w2 ⟨rfl, hB⟩
      obtain ⟨hc2, hf2⟩ := U.bcell hB
      have hsz := hB.size
      try simp at hsz
      have hz2_0 : w.heap.size < w2.heap.size := by omega
      have hz2_1 : w.heap.size + 1 < w2.heap.size := by omega
      clear hsz
      have HB2 := Lib.hid ((HB1.out).trans (hB.mono (HB1.out).size))
      clear hB
      go_wp2_with fail
      have HS1 := Lib.hid (show ((fun W1 => (∀ o, W1.cell? ⟨w.heap.size, o, none⟩ = (#[.int .i64 x0.e, .int .i64 x0.d, .int .i64 x0.t, .int .i64 x0.a, .int .i64 x0.h] : Array Value)[o]?) ∧ (∀ o, W1.cell? ⟨w.heap.size + 1, o, none⟩ = (#[.int .i64 x1.e, .int .i64 x1.d, .int .i64 x1.t, .int .i64 x1.a, .int .i64 x1.h] : Array Value)[o]?) ∧ w.heap.size + 1 < W1.heap.size ∧ Below w.heap.size w W1)) w2.drew from ⟨fun o => by rw [show w2.drew.cell? ⟨w.heap.size, o, none⟩ = w2.cell? ⟨w.heap.size, o, none⟩ from rfl, hc2 _ _ hz1_0, hc1 _ _ (by simp; omega)]; exact cell_of_row ((w.alloc (.cells #[.int .i64 x0.e, .int .i64 x0.d, .int .i64 x0.t, .int .i64 x0.a, .int .i64 x0.h] 23)).alloc (.cells #[.int .i64 x1.e, .int .i64 x1.d, .int .i64 x1.t, .int .i64 x1.a, .int .i64 x1.h] 23)) w.heap.size o _ _ _ (heap_alloc2_old w _ _), fun o => by rw [show w2.drew.cell? ⟨w.heap.size + 1, o, none⟩ = w2.cell? ⟨w.heap.size + 1, o, none⟩ from rfl, hc2 _ _ hz1_1, hc1 _ _ (by simp)]; exact cell_of_row ((w.alloc (.cells #[.int .i64 x0.e, .int .i64 x0.d, .int .i64 x0.t, .int .i64 x0.a, .int .i64 x0.h] 23)).alloc (.cells #[.int .i64 x1.e, .int .i64 x1.d, .int .i64 x1.t, .int .i64 x1.a, .int .i64 x1.h] 23)) (w.heap.size + 1) o _ _ _ (heap_alloc2_new w _ _), hz2_1, HB2.out.drew⟩)
      clear hc1 hf1 hc2 hf2 hz1_0 hz1_1 hz2_0 hz2_1
      refine wp_region_noPanic ?_
      refine wp_region_held_drew (S := (fun W1 => (∀ o, W1.cell? ⟨w.heap.size, o, none⟩ = (#[.int .i64 x0.e, .int .i64 x0.d, .int .i64 x0.t, .int .i64 x0.a, .int .i64 x0.h] : Array Value)[o]?) ∧ (∀ o, W1.cell? ⟨w.heap.size + 1, o, none⟩ = (#[.int .i64 x1.e, .int .i64 x1.d, .int .i64 x1.t, .int .i64 x1.a, .int .i64 x1.h] : Array Value)[o]?) ∧ w.heap.size + 1 < W1.heap.size ∧ Below w.heap.size w W1)) (by kernel_rfl) (HS1.out) (fun hHeld => ?_)
      refine wpAnyH_take (i := 0) (oi := { dst := some 15, op := _, type := _, pos := _, after := _, guard := _ }) (v := ?_) rfl (by kernel_rfl) (by kernel_rfl) (by kernel_rfl) (fun _ _ _ h => h) (Or.inl ⟨by rfl, ?_⟩) (by assumption) ?_
      rotate_left
      · (intro w hSw; (try dsimp only at hSw); (try obtain ⟨hS0, hS1, hS2, hS3⟩ := hSw); go_simp)
        first | done | with_reducible rfl
      try simp only [Act.put, List.setIfInBounds_toArray, List.set_cons_zero, List.set_cons_succ]
      refine wpAnyH_take (i := 1) (oi := { dst := some 16, op := _, type := _, pos := _, after := _, guard := _ }) (v := ?_) rfl (by kernel_rfl) (by kernel_rfl) (by kernel_rfl) (fun _ _ _ h => h) (Or.inl ⟨by rfl, ?_⟩) (by assumption) ?_
      rotate_left
      · (intro w hSw; (try dsimp only at hSw); (try obtain ⟨hS0, hS1, hS2, hS3⟩ := hSw); go_simp)
        first | done | with_reducible rfl
      try simp only [Act.put, List.setIfInBounds_toArray, List.set_cons_zero, List.set_cons_succ]
      refine wpAnyH_take (i := 3) (oi := { dst := some 18, op := _, type := _, pos := _, after := _, guard := _ }) (v := ?_) rfl (by kernel_rfl) (by kernel_rfl) (by kernel_rfl) (fun _ _ _ h => h) (Or.inl ⟨by rfl, ?_⟩) (by assumption) ?_
      rotate_left
      · (intro w hSw; (try dsimp only at hSw); (try obtain ⟨hS0, hS1, hS2, hS3⟩ := hSw); go_simp)
        first | done | with_reducible rfl
      try simp only [Act.put, List.setIfInBounds_toArray, List.set_cons_zero, List.set_cons_succ]
      refine wpAnyH_take (i := 4) (oi := { dst := some 19, op := _, type := _, pos := _, after := _, guard := _ }) (v := ?_) rfl (by kernel_rfl) (by kernel_rfl) (by kernel_rfl) (fun _ _ _ h => h) (Or.inl ⟨by rfl, ?_⟩) (by assumption) ?_
      rotate_left
      · (intro w hSw; (try dsimp only at hSw); (try obtain ⟨hS0, hS1, hS2, hS3⟩ := hSw); go_simp)
        first | done | with_reducible rfl
      try simp only [Act.put, List.setIfInBounds_toArray, List.set_cons_zero, List.set_cons_succ]
      refine wpAnyH_ready (rs := [2]) (by kernel_rfl) (by simp) ?_
      refine AllReadyH.cons (o := { dst := some 17, op := _, type := _, pos := _, after := _, guard := _ }) rfl (fun K hK => ?_) AllReadyH.nil
      go_simp
      refine (HT.out _ (HS1.out).2.2.2).mono ?_
      rintro r wr1 ⟨rfl, hB⟩
      have hR1 := U.stepD HS1.out hB
      clear hB
      go_wp2_with fail
      refine hK.out _ _ hR1 (fun hH2 => ?_)
      clear hK K hHeld
      rename _ => hHeld
      try simp only [Act.put, List.setIfInBounds_toArray, List.set_cons_zero, List.set_cons_succ]
      refine wpAnyH_ready (rs := [5]) (by kernel_rfl) (by simp) ?_
      refine AllReadyH.cons (o := { dst := some 20, op := _, type := _, pos := _, after := _, guard := _ }) rfl (fun K hK => ?_) AllReadyH.nil
      go_simp
      refine (HRT.out _).mono ?_
      rintro r wr2 ⟨rfl, hB⟩
      have hR2 := U.stepD hR1 hB
      clear hB
      go_wp2_with fail
      refine hK.out _ _ hR2 (fun hH2 => ?_)
      clear hK K hHeld
      rename _ => hHeld
      try simp only [Act.put, List.setIfInBounds_toArray, List.set_cons_zero, List.set_cons_succ]
      refine wpAnyH_take (i := 6) (oi := { dst := some 21, op := _, type := _, pos := _, after := _, guard := _ }) (v := ?_) rfl (by kernel_rfl) (by kernel_rfl) (by kernel_rfl) (fun _ _ _ h => h) (Or.inl ⟨by rfl, ?_⟩) (by assumption) ?_
      rotate_left
      · (intro w hSw; (try dsimp only at hSw); (try obtain ⟨hS0, hS1, hS2, hS3⟩ := hSw); go_simp)
        first | done | with_reducible rfl
      try simp only [Act.put, List.setIfInBounds_toArray, List.set_cons_zero, List.set_cons_succ]
      refine wpAnyH_take (i := 7) (oi := { dst := some 22, op := _, type := _, pos := _, after := _, guard := _ }) (v := ?_) rfl (by kernel_rfl) (by kernel_rfl) (by kernel_rfl) (fun _ _ _ h => h) (Or.inl ⟨by rfl, ?_⟩) (by assumption) ?_
      rotate_left
      · (intro w hSw; (try dsimp only at hSw); (try obtain ⟨hS0, hS1, hS2, hS3⟩ := hSw); go_simp)
        first | done | with_reducible rfl
      try simp only [Act.put, List.setIfInBounds_toArray, List.set_cons_zero, List.set_cons_succ]
      refine wpAnyH_take (i := 8) (oi := { dst := some 23, op := _, type := _, pos := _, after := _, guard := _ }) (v := ?_) rfl (by kernel_rfl) (by kernel_rfl) (by kernel_rfl) (fun _ _ _ h => h) (Or.inl ⟨by rfl, ?_⟩) (by assumption) ?_
      rotate_left
      · (intro w hSw; (try dsimp only at hSw); (try obtain ⟨hS0, hS1, hS2, hS3⟩ := hSw); go_simp)
        first | done | with_reducible rfl
      try simp only [Act.put, List.setIfInBounds_toArray, List.set_cons_zero, List.set_cons_succ]
      refine wpAnyH_take (i := 9) (oi := { dst := some 24, op := _, type := _, pos := _, after := _, guard := _ }) (v := ?_) rfl (by kernel_rfl) (by kernel_rfl) (by kernel_rfl) (fun _ _ _ h => h) (Or.inl ⟨by rfl, ?_⟩) (by assumption) ?_
      rotate_left
      · (intro w hSw; (try dsimp only at hSw); (try obtain ⟨hS0, hS1, hS2, hS3⟩ := hSw); go_simp)
        first | done | with_reducible rfl
      try simp only [Act.put, List.setIfInBounds_toArray, List.set_cons_zero, List.set_cons_succ]
      refine wpAnyH_take (i := 11) (oi := { dst := some 26, op := _, type := _, pos := _, after := _, guard := _ }) (v := ?_) rfl (by kernel_rfl) (by kernel_rfl) (by kernel_rfl) (fun _ _ _ h => h) (Or.inl ⟨by rfl, ?_⟩) (by assumption) ?_
      rotate_left
      · (intro w hSw; (try dsimp only at hSw); (try obtain ⟨hS0, hS1, hS2, hS3⟩ := hSw); go_simp)
        first | done | with_reducible rfl
      try simp only [Act.put, List.setIfInBounds_toArray, List.set_cons_zero, List.set_cons_succ]
      refine wpAnyH_take (i := 12) (oi := { dst := some 27, op := _, type := _, pos := _, after := _, guard := _ }) (v := ?_) rfl (by kernel_rfl) (by kernel_rfl) (by kernel_rfl) (fun _ _ _ h => h) (Or.inl ⟨by rfl, ?_⟩) (by assumption) ?_
      rotate_left
      · (intro w hSw; (try dsimp only at hSw); (try obtain ⟨hS0, hS1, hS2, hS3⟩ := hSw); go_simp)
        first | done | with_reducible rfl
      try simp only [Act.put, List.setIfInBounds_toArray, List.set_cons_zero, List.set_cons_succ]
      refine wpAnyH_ready (rs := [10]) (by kernel_rfl) (by simp) ?_
      refine AllReadyH.cons (o := { dst := some 25, op := _, type := _, pos := _, after := _, guard := _ }) rfl (fun K hK => ?_) AllReadyH.nil
      go_simp
      refine (HO.out _ (hR2).2.2.2).mono ?_
      rintro r wr3 ⟨rfl, hB⟩
      have hR3 := U.stepD hR2 hB
      clear hB
      go_wp2_with fail
      refine hK.out _ _ hR3 (fun hH2 => ?_)
      clear hK K hHeld
      rename _ => hHeld
      try simp only [Act.put, List.setIfInBounds_toArray, List.set_cons_zero, List.set_cons_succ]
      refine wpAnyH_ready (rs := [13]) (by kernel_rfl) (by simp) ?_
      refine AllReadyH.cons (o := { dst := some 28, op := _, type := _, pos := _, after := _, guard := _ }) rfl (fun K hK => ?_) AllReadyH.nil
      go_simp
      refine (HRO.out _).mono ?_
      rintro r wr4 ⟨rfl, hB⟩
      have hR4 := U.stepD hR3 hB
      clear hB
      go_wp2_with fail
      refine hK.out _ _ hR4 (fun hH2 => ?_)
      clear hK K hHeld
      rename _ => hHeld
      try simp only [Act.put, List.setIfInBounds_toArray, List.set_cons_zero, List.set_cons_succ]
      refine wpAnyH_take (i := 14) (oi := { dst := some 29, op := _, type := _, pos := _, after := _, guard := _ }) (v := ?_) rfl (by kernel_rfl) (by kernel_rfl) (by kernel_rfl) (fun _ _ _ h => h) (Or.inl ⟨by rfl, ?_⟩) (by assumption) ?_
      rotate_left
      · (intro w hSw; (try dsimp only at hSw); (try obtain ⟨hS0, hS1, hS2, hS3⟩ := hSw); go_simp)
        first | done | with_reducible rfl
      try simp only [Act.put, List.setIfInBounds_toArray, List.set_cons_zero, List.set_cons_succ]
      refine wpAnyH_take (i := 15) (oi := { dst := some 30, op := _, type := _, pos := _, after := _, guard := _ }) (v := ?_) rfl (by kernel_rfl) (by kernel_rfl) (by kernel_rfl) (fun _ _ _ h => h) (Or.inl ⟨by rfl, ?_⟩) (by assumption) ?_
      rotate_left
      · (intro w hSw; (try dsimp only at hSw); (try obtain ⟨hS0, hS1, hS2, hS3⟩ := hSw); go_simp)
        first | done | with_reducible rfl
      try simp only [Act.put, List.setIfInBounds_toArray, List.set_cons_zero, List.set_cons_succ]
      refine wpAnyH_done (by kernel_rfl) ?_ _
      refine NoPanic.normal ?_
      have HS2 := hR4
      clear hHeld hR1 hR2 hR3 hR4
      obtain ⟨wm, hwm⟩ : ∃ wm, wm = wr4 := ⟨_, rfl⟩
      subst hwm
      obtain ⟨hm0, hm1, hm2, hm3⟩ := HS2
      have hm4 : w.heap.size < wm.heap.size := by omega
      have HM := Lib.hid (And.intro hm0 (And.intro hm1 (And.intro hm2 hm3)))
      go_wp2_with fail
      refine (HT.out _ hm3).mono ?_
      rintro r w5 ⟨rfl, hB⟩
      have HS5 := Lib.hid (U.stepD HM.out hB)
      clear hm0 hm1 hm2 hm3 hm4 hB
      go_wp2_with fail
      have HE1 := Lib.hid (U.startE (p := p) HS5.out)
      by_cases hpi : p.in 1000
      · rw [decide_eq_true hpi] at HWP
        have HO2 := HO2 hpi
        clear hpi
        refine wp_region_noPanic ?_
        refine wp_region_held_drew (S := (fun W1 => (∀ o, W1.cell? ⟨w.heap.size, o, none⟩ = (#[.int .i64 x0.e, .int .i64 x0.d, .int .i64 x0.t, .int .i64 x0.a, .int .i64 x0.h] : Array Value)[o]?) ∧ (∀ o, W1.cell? ⟨w.heap.size + 1, o, none⟩ = (#[.int .i64 x1.e, .int .i64 x1.d, .int .i64 x1.t, .int .i64 x1.a, .int .i64 x1.h] : Array Value)[o]?) ∧ (∀ o, W1.cell? ⟨w5.heap.size, o, none⟩ = (#[.int .i64 p.e, .int .i64 p.d, .int .i64 p.t, .int .i64 p.a, .int .i64 p.h] : Array Value)[o]?) ∧ (w.heap.size + 1 < W1.heap.size ∧ w5.heap.size < W1.heap.size) ∧ Below w.heap.size w W1)) (by kernel_rfl) (HE1.out) (fun hHeld => ?_)
        refine wpAnyH_take (i := 0) (oi := { dst := some 34, op := _, type := _, pos := _, after := _, guard := _ }) (v := ?_) rfl (by kernel_rfl) (by kernel_rfl) (by kernel_rfl) (fun _ _ _ h => h) (Or.inl ⟨by rfl, ?_⟩) (by assumption) ?_
        rotate_left
        · (intro w hSw; (try dsimp only at hSw); (try obtain ⟨hS0, hS1, hS2, hS3, hS4⟩ := hSw); go_simp)
          first | done | with_reducible rfl
        try simp only [Act.put, List.setIfInBounds_toArray, List.set_cons_zero, List.set_cons_succ]
        refine wpAnyH_ready (rs := [1]) (by kernel_rfl) (by simp) ?_
        refine AllReadyH.cons (o := { dst := some 35, op := _, type := _, pos := _, after := _, guard := _ }) rfl (fun K hK => ?_) AllReadyH.nil
        go_simp
        refine (HWP.out _).mono ?_
        rintro r wr11 ⟨rfl, hB⟩
        have hR11 := U.stepE HE1.out hB
        clear hB
        go_wp2_with fail
        refine hK.out _ _ hR11 (fun hH2 => ?_)
        clear hK K hHeld
        rename _ => hHeld
        try simp only [Act.put, List.setIfInBounds_toArray, List.set_cons_zero, List.set_cons_succ]
        refine wpAnyH_take (i := 2) (oi := { dst := some 36, op := _, type := _, pos := _, after := _, guard := _ }) (v := ?_) rfl (by kernel_rfl) (by kernel_rfl) (by kernel_rfl) (fun _ _ _ h => h) (Or.inl ⟨by rfl, ?_⟩) (by assumption) ?_
        rotate_left
        · (intro w hSw; (try dsimp only at hSw); (try obtain ⟨hS0, hS1, hS2, hS3, hS4⟩ := hSw); go_simp)
          first | done | with_reducible rfl
        try simp only [Act.put, List.setIfInBounds_toArray, List.set_cons_zero, List.set_cons_succ]
        refine wpAnyH_take (i := 3) (oi := { dst := some 37, op := _, type := _, pos := _, after := _, guard := _ }) (v := ?_) rfl (by kernel_rfl) (by kernel_rfl) (by kernel_rfl) (fun _ _ _ h => h) (Or.inl ⟨by rfl, ?_⟩) (by assumption) ?_
        rotate_left
        · (intro w hSw; (try dsimp only at hSw); (try obtain ⟨hS0, hS1, hS2, hS3, hS4⟩ := hSw); go_simp)
          first | done | with_reducible rfl
        try simp only [Act.put, List.setIfInBounds_toArray, List.set_cons_zero, List.set_cons_succ]
        refine wpAnyH_take (i := 4) (oi := { dst := some 38, op := _, type := _, pos := _, after := _, guard := _ }) (v := ?_) rfl (by kernel_rfl) (by kernel_rfl) (by kernel_rfl) (fun _ _ _ h => h) (Or.inl ⟨by rfl, ?_⟩) (by assumption) ?_
        rotate_left
        · (intro w hSw; (try dsimp only at hSw); (try obtain ⟨hS0, hS1, hS2, hS3, hS4⟩ := hSw); go_simp)
          first | done | with_reducible rfl
        try simp only [Act.put, List.setIfInBounds_toArray, List.set_cons_zero, List.set_cons_succ]
        refine wpAnyH_take (i := 5) (oi := { dst := some 39, op := _, type := _, pos := _, after := _, guard := _ }) (v := ?_) rfl (by kernel_rfl) (by kernel_rfl) (by kernel_rfl) (fun _ _ _ h => h) (Or.inl ⟨by rfl, ?_⟩) (by assumption) ?_
        rotate_left
        · (intro w hSw; (try dsimp only at hSw); (try obtain ⟨hS0, hS1, hS2, hS3, hS4⟩ := hSw); go_simp)
          first | done | with_reducible rfl
        try simp only [Act.put, List.setIfInBounds_toArray, List.set_cons_zero, List.set_cons_succ]
        refine wpAnyH_take (i := 7) (oi := { dst := some 41, op := _, type := _, pos := _, after := _, guard := _ }) (v := ?_) rfl (by kernel_rfl) (by kernel_rfl) (by kernel_rfl) (fun _ _ _ h => h) (Or.inl ⟨by rfl, ?_⟩) (by assumption) ?_
        rotate_left
        · (intro w hSw; (try dsimp only at hSw); (try obtain ⟨hS0, hS1, hS2, hS3, hS4⟩ := hSw); go_simp)
          first | done | with_reducible rfl
        try simp only [Act.put, List.setIfInBounds_toArray, List.set_cons_zero, List.set_cons_succ]
        refine wpAnyH_ready (rs := [6]) (by kernel_rfl) (by simp) ?_
        refine AllReadyH.cons (o := { dst := some 40, op := _, type := _, pos := _, after := _, guard := _ }) rfl (fun K hK => ?_) AllReadyH.nil
        go_simp
        refine (HO2.out _ (hR11).2.2.2.2).mono ?_
        rintro r wr12 ⟨rfl, hB⟩
        have hR12 := U.stepE hR11 hB
        clear hB
        go_wp2_with fail
        refine hK.out _ _ hR12 (fun hH2 => ?_)
        clear hK K hHeld
        rename _ => hHeld
        try simp only [Act.put, List.setIfInBounds_toArray, List.set_cons_zero, List.set_cons_succ]
        refine wpAnyH_take (i := 8) (oi := { dst := some 42, op := _, type := _, pos := _, after := _, guard := _ }) (v := ?_) rfl (by kernel_rfl) (by kernel_rfl) (by kernel_rfl) (fun _ _ _ h => h) (Or.inl ⟨by rfl, ?_⟩) (by assumption) ?_
        rotate_left
        · (intro w hSw; (try dsimp only at hSw); (try obtain ⟨hS0, hS1, hS2, hS3, hS4⟩ := hSw); go_simp)
          first | done | with_reducible rfl
        try simp only [Act.put, List.setIfInBounds_toArray, List.set_cons_zero, List.set_cons_succ]
        refine wpAnyH_take (i := 9) (oi := { dst := some 43, op := _, type := _, pos := _, after := _, guard := _ }) (v := ?_) rfl (by kernel_rfl) (by kernel_rfl) (by kernel_rfl) (fun _ _ _ h => h) (Or.inl ⟨by rfl, ?_⟩) (by assumption) ?_
        rotate_left
        · (intro w hSw; (try dsimp only at hSw); (try obtain ⟨hS0, hS1, hS2, hS3, hS4⟩ := hSw); go_simp)
          first | done | with_reducible rfl
        try simp only [Act.put, List.setIfInBounds_toArray, List.set_cons_zero, List.set_cons_succ]
        refine wpAnyH_take (i := 10) (oi := { dst := some 44, op := _, type := _, pos := _, after := _, guard := _ }) (v := ?_) rfl (by kernel_rfl) (by kernel_rfl) (by kernel_rfl) (fun _ _ _ h => h) (Or.inl ⟨by rfl, ?_⟩) (by assumption) ?_
        rotate_left
        · (intro w hSw; (try dsimp only at hSw); (try obtain ⟨hS0, hS1, hS2, hS3, hS4⟩ := hSw); go_simp)
          first | done | with_reducible rfl
        try simp only [Act.put, List.setIfInBounds_toArray, List.set_cons_zero, List.set_cons_succ]
        refine wpAnyH_ready (rs := [11]) (by kernel_rfl) (by simp) ?_
        refine AllReadyH.cons (o := { dst := some 45, op := _, type := _, pos := _, after := _, guard := _ }) rfl (fun K hK => ?_) AllReadyH.nil
        go_simp
        refine (HLV.out _ (hR12).2.2.2.2).mono ?_
        rintro r wr13 ⟨rfl, hB⟩
        have hR13 := U.stepE hR12 hB
        clear hB
        go_wp2_with fail
        refine hK.out _ _ hR13 (fun hH2 => ?_)
        clear hK K hHeld
        rename _ => hHeld
        try simp only [Act.put, List.setIfInBounds_toArray, List.set_cons_zero, List.set_cons_succ]
        refine wpAnyH_take (i := 12) (oi := { dst := some 46, op := _, type := _, pos := _, after := _, guard := _ }) (v := ?_) rfl (by kernel_rfl) (by kernel_rfl) (by kernel_rfl) (fun _ _ _ h => h) (Or.inl ⟨by rfl, ?_⟩) (by assumption) ?_
        rotate_left
        · (intro w hSw; (try dsimp only at hSw); (try obtain ⟨hS0, hS1, hS2, hS3, hS4⟩ := hSw); go_simp)
          first | done | with_reducible rfl
        try simp only [Act.put, List.setIfInBounds_toArray, List.set_cons_zero, List.set_cons_succ]
        refine wpAnyH_take (i := 13) (oi := { dst := some 4, op := _, type := _, pos := _, after := _, guard := _ }) (v := ?_) rfl (by kernel_rfl) (by kernel_rfl) (by kernel_rfl) (fun _ _ _ h => h) (Or.inl ⟨by rfl, ?_⟩) (by assumption) ?_
        rotate_left
        · (intro w hSw; (try dsimp only at hSw); (try obtain ⟨hS0, hS1, hS2, hS3, hS4⟩ := hSw); go_simp)
          first | done | with_reducible rfl
        try simp only [Act.put, List.setIfInBounds_toArray, List.set_cons_zero, List.set_cons_succ]
        refine wpAnyH_done (by kernel_rfl) ?_ _
        refine NoPanic.normal ?_
        have HEND := Lib.hid (hR13).2.2.2.2
        clear hHeld hR11 hR12 hR13
        go_wp2_with fail
        go_ret
        exact ⟨rfl, HEND.out⟩
      · rw [decide_eq_false hpi] at HWP
        clear hpi HO2
        refine wp_region_noPanic ?_
        refine wp_region_held_drew (S := (fun W1 => (∀ o, W1.cell? ⟨w.heap.size, o, none⟩ = (#[.int .i64 x0.e, .int .i64 x0.d, .int .i64 x0.t, .int .i64 x0.a, .int .i64 x0.h] : Array Value)[o]?) ∧ (∀ o, W1.cell? ⟨w.heap.size + 1, o, none⟩ = (#[.int .i64 x1.e, .int .i64 x1.d, .int .i64 x1.t, .int .i64 x1.a, .int .i64 x1.h] : Array Value)[o]?) ∧ (∀ o, W1.cell? ⟨w5.heap.size, o, none⟩ = (#[.int .i64 p.e, .int .i64 p.d, .int .i64 p.t, .int .i64 p.a, .int .i64 p.h] : Array Value)[o]?) ∧ (w.heap.size + 1 < W1.heap.size ∧ w5.heap.size < W1.heap.size) ∧ Below w.heap.size w W1)) (by kernel_rfl) (HE1.out) (fun hHeld => ?_)
        refine wpAnyH_take (i := 0) (oi := { dst := some 34, op := _, type := _, pos := _, after := _, guard := _ }) (v := ?_) rfl (by kernel_rfl) (by kernel_rfl) (by kernel_rfl) (fun _ _ _ h => h) (Or.inl ⟨by rfl, ?_⟩) (by assumption) ?_
        rotate_left
        · (intro w hSw; (try dsimp only at hSw); (try obtain ⟨hS0, hS1, hS2, hS3, hS4⟩ := hSw); go_simp)
          first | done | with_reducible rfl
        try simp only [Act.put, List.setIfInBounds_toArray, List.set_cons_zero, List.set_cons_succ]
        refine wpAnyH_ready (rs := [1]) (by kernel_rfl) (by simp) ?_
        refine AllReadyH.cons (o := { dst := some 35, op := _, type := _, pos := _, after := _, guard := _ }) rfl (fun K hK => ?_) AllReadyH.nil
        go_simp
        refine (HWP.out _).mono ?_
        rintro r wr11 ⟨rfl, hB⟩
        have hR11 := U.stepE HE1.out hB
        clear hB
        go_wp2_with fail
        refine hK.out _ _ hR11 (fun hH2 => ?_)
        clear hK K hHeld
        rename _ => hHeld
        try simp only [Act.put, List.setIfInBounds_toArray, List.set_cons_zero, List.set_cons_succ]
        refine wpAnyH_take (i := 2) (oi := { dst := some 36, op := _, type := _, pos := _, after := _, guard := _ }) (v := ?_) rfl (by kernel_rfl) (by kernel_rfl) (by kernel_rfl) (fun _ _ _ h => h) (Or.inl ⟨by rfl, ?_⟩) (by assumption) ?_
        rotate_left
        · (intro w hSw; (try dsimp only at hSw); (try obtain ⟨hS0, hS1, hS2, hS3, hS4⟩ := hSw); go_simp)
          first | done | with_reducible rfl
        try simp only [Act.put, List.setIfInBounds_toArray, List.set_cons_zero, List.set_cons_succ]
        refine wpAnyH_take (i := 3) (oi := { dst := some 37, op := _, type := _, pos := _, after := _, guard := _ }) (v := ?_) rfl (by kernel_rfl) (by kernel_rfl) (by kernel_rfl) (fun _ _ _ h => h) (Or.inl ⟨by rfl, ?_⟩) (by assumption) ?_
        rotate_left
        · (intro w hSw; (try dsimp only at hSw); (try obtain ⟨hS0, hS1, hS2, hS3, hS4⟩ := hSw); go_simp)
          first | done | with_reducible rfl
        try simp only [Act.put, List.setIfInBounds_toArray, List.set_cons_zero, List.set_cons_succ]
        refine wpAnyH_take (i := 4) (oi := { dst := some 38, op := _, type := _, pos := _, after := _, guard := _ }) (v := undef) rfl (by kernel_rfl) (by kernel_rfl) (by kernel_rfl) (fun _ _ _ h => h) (Or.inr ⟨by rfl, rfl⟩) (by assumption) ?_
        try simp only [Act.put, List.setIfInBounds_toArray, List.set_cons_zero, List.set_cons_succ]
        refine wpAnyH_take (i := 5) (oi := { dst := some 39, op := _, type := _, pos := _, after := _, guard := _ }) (v := undef) rfl (by kernel_rfl) (by kernel_rfl) (by kernel_rfl) (fun _ _ _ h => h) (Or.inr ⟨by rfl, rfl⟩) (by assumption) ?_
        try simp only [Act.put, List.setIfInBounds_toArray, List.set_cons_zero, List.set_cons_succ]
        refine wpAnyH_take (i := 7) (oi := { dst := some 41, op := _, type := _, pos := _, after := _, guard := _ }) (v := undef) rfl (by kernel_rfl) (by kernel_rfl) (by kernel_rfl) (fun _ _ _ h => h) (Or.inr ⟨by rfl, rfl⟩) (by assumption) ?_
        try simp only [Act.put, List.setIfInBounds_toArray, List.set_cons_zero, List.set_cons_succ]
        refine wpAnyH_ready (rs := [6]) (by kernel_rfl) (by simp) ?_
        refine AllReadyH.cons (o := { dst := some 40, op := _, type := _, pos := _, after := _, guard := _ }) rfl (fun K hK => ?_) AllReadyH.nil
        refine H.if_unwanted rfl ?_
        refine hK.out _ _ (hR11) (fun hH2 => ?_)
        clear hK K hHeld
        rename _ => hHeld
        try simp only [Act.put, List.setIfInBounds_toArray, List.set_cons_zero, List.set_cons_succ]
        refine wpAnyH_take (i := 8) (oi := { dst := some 42, op := _, type := _, pos := _, after := _, guard := _ }) (v := undef) rfl (by kernel_rfl) (by kernel_rfl) (by kernel_rfl) (fun _ _ _ h => h) (Or.inr ⟨by rfl, rfl⟩) (by assumption) ?_
        try simp only [Act.put, List.setIfInBounds_toArray, List.set_cons_zero, List.set_cons_succ]
        refine wpAnyH_take (i := 9) (oi := { dst := some 43, op := _, type := _, pos := _, after := _, guard := _ }) (v := ?_) rfl (by kernel_rfl) (by kernel_rfl) (by kernel_rfl) (fun _ _ _ h => h) (Or.inl ⟨by rfl, ?_⟩) (by assumption) ?_
        rotate_left
        · (intro w hSw; (try dsimp only at hSw); (try obtain ⟨hS0, hS1, hS2, hS3, hS4⟩ := hSw); go_simp)
          first | done | with_reducible rfl
        try simp only [Act.put, List.setIfInBounds_toArray, List.set_cons_zero, List.set_cons_succ]
        refine wpAnyH_take (i := 10) (oi := { dst := some 44, op := _, type := _, pos := _, after := _, guard := _ }) (v := ?_) rfl (by kernel_rfl) (by kernel_rfl) (by kernel_rfl) (fun _ _ _ h => h) (Or.inl ⟨by rfl, ?_⟩) (by assumption) ?_
        rotate_left
        · (intro w hSw; (try dsimp only at hSw); (try obtain ⟨hS0, hS1, hS2, hS3, hS4⟩ := hSw); go_simp)
          first | done | with_reducible rfl
        try simp only [Act.put, List.setIfInBounds_toArray, List.set_cons_zero, List.set_cons_succ]
        refine wpAnyH_ready (rs := [11]) (by kernel_rfl) (by simp) ?_
        refine AllReadyH.cons (o := { dst := some 45, op := _, type := _, pos := _, after := _, guard := _ }) rfl (fun K hK => ?_) AllReadyH.nil
        go_simp
        refine (HLV.out _ (hR11).2.2.2.2).mono ?_
        rintro r wr12 ⟨rfl, hB⟩
        have hR12 := U.stepE hR11 hB
        clear hB
        go_wp2_with fail
        refine hK.out _ _ hR12 (fun hH2 => ?_)
        clear hK K hHeld
        rename _ => hHeld
        try simp only [Act.put, List.setIfInBounds_toArray, List.set_cons_zero, List.set_cons_succ]
        refine wpAnyH_take (i := 12) (oi := { dst := some 46, op := _, type := _, pos := _, after := _, guard := _ }) (v := ?_) rfl (by kernel_rfl) (by kernel_rfl) (by kernel_rfl) (fun _ _ _ h => h) (Or.inl ⟨by rfl, ?_⟩) (by assumption) ?_
        rotate_left
        · (intro w hSw; (try dsimp only at hSw); (try obtain ⟨hS0, hS1, hS2, hS3, hS4⟩ := hSw); go_simp)
          first | done | with_reducible rfl
        try simp only [Act.put, List.setIfInBounds_toArray, List.set_cons_zero, List.set_cons_succ]
        refine wpAnyH_take (i := 13) (oi := { dst := some 4, op := _, type := _, pos := _, after := _, guard := _ }) (v := ?_) rfl (by kernel_rfl) (by kernel_rfl) (by kernel_rfl) (fun _ _ _ h => h) (Or.inl ⟨by rfl, ?_⟩) (by assumption) ?_
        rotate_left
        · (intro w hSw; (try dsimp only at hSw); (try obtain ⟨hS0, hS1, hS2, hS3, hS4⟩ := hSw); go_simp)
          first | done | with_reducible rfl
        try simp only [Act.put, List.setIfInBounds_toArray, List.set_cons_zero, List.set_cons_succ]
        refine wpAnyH_done (by kernel_rfl) ?_ _
        refine NoPanic.normal ?_
        have HEND := Lib.hid (hR12).2.2.2.2
        clear hHeld hR11 hR12
        go_wp2_with fail
        go_ret
        exact ⟨rfl, HEND.out⟩
    · rw [decide_eq_false hv1] at HV1
      clear hv0 hv1 ok0 ok1
      go_enter Tryd.func4, Tryd.ntmps4
      go_wp2_with fail
      refine (HV0.out _).mono ?_
      rintro r w1 ⟨rfl, hB⟩
      obtain ⟨hc1, hf1⟩ := U.bcell hB
      have hsz := hB.size
      try simp at hsz
      have hz1_0 : w.heap.size < w1.heap.size := by omega
      have hz1_1 : w.heap.size + 1 < w1.heap.size := by omega
      clear hsz
      have HB1 := Lib.hid ((U.bel2 w _ _).trans (hB.mono (U.bel2 w _ _).size))
      clear hB
      go_wp2_with fail
      refine (HV1.out _).mono ?_
      rintro r w2 ⟨rfl, hB⟩
      have HB2 := Lib.hid ((HB1.out).trans (hB.mono (HB1.out).size))
      clear hB
      go_wp2_with fail
      refine (HLV.out _ (HB2.out)).mono ?_
      rintro r w3 ⟨rfl, hB⟩
      have HB3 := Lib.hid ((HB2.out).trans (hB.mono (HB2.out).size))
      clear hB
      go_wp2_with fail
      go_ret
      exact ⟨rfl, HB3.out⟩
  · rw [decide_eq_false hv0] at HV0
    clear hv0 ok0 ok1
    go_enter Tryd.func4, Tryd.ntmps4
    go_wp2_with fail
    refine (HV0.out _).mono ?_
    rintro r w1 ⟨rfl, hB⟩
    obtain ⟨hc1, hf1⟩ := U.bcell hB
    have hsz := hB.size
    try simp at hsz
    have hz1_0 : w.heap.size < w1.heap.size := by omega
    have hz1_1 : w.heap.size + 1 < w1.heap.size := by omega
    clear hsz
    have HB1 := Lib.hid ((U.bel2 w _ _).trans (hB.mono (U.bel2 w _ _).size))
    clear hB
    go_wp2_with fail
    refine (HLV.out _ (HB1.out)).mono ?_
    rintro r w2 ⟨rfl, hB⟩
    have HB2 := Lib.hid ((HB1.out).trans (hB.mono (HB1.out).size))
    clear hB
    go_wp2_with fail
    go_ret
    exact ⟨rfl, HB2.out⟩

theorem reads (os : Os) {H0 : Type} (enc : TypeId × Value → H0) : ∃ places, DataW.whole enc Tryd.prog ((Go.Proofs.YthcehhonahgfmaaDoor.U.laidWorld os).forCall (fun _ _ => 0) ⟨#[], #[.agg #[.int .i64 0, .int .i64 0, .int .i64 0, .int .i64 0, .int .i64 0], .agg #[.int .i64 0, .int .i64 0, .int .i64 0, .int .i64 0, .int .i64 0]], []⟩).memory Tryd.f4.params.toList Rows.unitDimsSpec.vars false (#[.agg #[.int .i64 0, .int .i64 0, .int .i64 0, .int .i64 0, .int .i64 0], .agg #[.int .i64 0, .int .i64 0, .int .i64 0, .int .i64 0, .int .i64 0]] : Array Value).toList 8 = some ([.agg [.lit (.int .i64 0), .lit (.int .i64 0), .lit (.int .i64 0), .lit (.int .i64 0), .lit (.int .i64 0)], .agg [.lit (.int .i64 0), .lit (.int .i64 0), .lit (.int .i64 0), .lit (.int .i64 0), .lit (.int .i64 0)]], [], places) :=
  ⟨[], by kernel_rfl⟩
set_option maxRecDepth 100000 in
theorem lifted (os : Os) (started : os.Started) (H0 : Type) (enc : TypeId × Value → H0) (F0 : Stop.Interp) :
    ReturnsInHanded {} Tryd.checked os 4 .any ((OpenSpec.ofChange Rows.unitDimsSpec).preRow enc Tryd.prog Tryd.f4 Rows.unitDimsRow.domain false Rows.unitDimsRow.laid) (((OpenSpec.ofChange Rows.unitDimsSpec).at F0).post enc Tryd.prog Tryd.f4 false true false false) := by
  obtain ⟨places, hx⟩ := reads os enc
  refine returnsInHanded_of_row (C := Tryd.checked) (s := (OpenSpec.ofChange Rows.unitDimsSpec)) Go.Proofs.YthcehhonahgfmaaDoor.O.own started (by kernel_rfl) Tryd.func4
    (Go.Proofs.YthcehhonahgfmaaDoor.U.witness_sh (enc := enc) (C := Tryd.checked) false (Go.Proofs.YthcehhonahgfmaaDoor.U.laidWorld os) #[.agg #[.int .i64 0, .int .i64 0, .int .i64 0, .int .i64 0, .int .i64 0], .agg #[.int .i64 0, .int .i64 0, .int .i64 0, .int .i64 0, .int .i64 0]] (Go.Proofs.YthcehhonahgfmaaDoor.U.laid_os os) (World.shaped_of_ZipB (by kernel_rfl) (by kernel_rfl)) (by kernel_rfl)
      (OpenSpec.preRow_of_cond 8 hx (by kernel_rfl) (fun k hk => by cases hk) (by kernel_rfl) (Go.Proofs.YthcehhonahgfmaaDoor.U.laid_met os _))) ?_
  intro W base args ds gs before hval0 hW _ hk0 hsz0 hL hSh _
  have hsz : (DataW.weightsEach Tryd.prog (Tryd.f4.params.toList ++ (OpenSpec.ofChange Rows.unitDimsSpec).bare.plain.varTypes Tryd.prog) (ds ++ gs)).all (· ≤ reachBytes) = true := hsz0
  clear hsz0
  have hval : ∀ (j : Nat) t v, Tryd.f4.params[j]? = some t → args[j]? = some v → Value.okWide Tryd.prog W .any base t v := hval0
  have hW' := hW
  obtain ⟨p, q, hA0, hV, rfl, hfz, hnd⟩ := hW
  have hA : DataW.TrodAll enc Tryd.prog W 0 (fun _ => true) true Tryd.f4.params.toList args.toList ds p := hA0
  rw [Tryd.params4] at hA hval hsz
  obtain ⟨v0, vs0, d0, ds0, p0, q0, hargs, rfl, rfl, h0, r0⟩ := trodAll_cons hA
  obtain ⟨v1, vs1, d1, ds1, p1, q1, rfl, rfl, rfl, h1, r1⟩ := trodAll_cons r0
  obtain ⟨rfl, rfl, rfl⟩ := trodAll_nil r1
  obtain rfl : args = #[v0, v1] := by cases args; simp_all
  obtain ⟨rfl, rfl⟩ := trodVars_none hV
  have k0 := h0
  have lt0 : ∀ x ∈ p0, x.block < W.heap.size := by obtain ⟨m, hm⟩ := k0; exact DataW.trod_lt m _ _ _ hm
  obtain ⟨x0, rfl, ok0⟩ := Go.Proofs.YthcehhonahgfmaaDoor.U.open_dim (hval 0 23 v0 rfl rfl) h0
  have k1 := h1
  have lt1 : ∀ x ∈ p1, x.block < W.heap.size := by obtain ⟨m, hm⟩ := k1; exact DataW.trod_lt m _ _ _ hm
  obtain ⟨x1, rfl, ok1⟩ := Go.Proofs.YthcehhonahgfmaaDoor.U.open_dim (hval 1 23 v1 rfl rfl) h1
  clear hA0 hval0
  have tb := Go.Proofs.YthcehhonahgfmaaDoor.U.tab_of_laid hL hSh
  refine (walk x0 x1 W tb ok0 ok1).mono fun e W' ⟨he, bel⟩ => ?_
  subst he
  exact ⟨_, rfl, _, _, _, [], _, [], hW', trodAll_mk1 (shut_bool Tryd.underlying4 _), (trodAll_cons_mk (Below.trod Go.Proofs.YthcehhonahgfmaaDoor.O.laidOut (by kernel_rfl) (of_decide_eq_true (by kernel_rfl)) k0 bel lt0) (trodAll_cons_mk (Below.trod Go.Proofs.YthcehhonahgfmaaDoor.O.laidOut (by kernel_rfl) (of_decide_eq_true (by kernel_rfl)) k1 bel lt1) trodAll_mk0)), rfl, bel.frame _, fun h => by cases h⟩

theorem said : Rows.UnitDimsSaid :=
  OpenClaim.holds_of_cond 4 Tryd.f4 rfl rfl rfl rfl rfl rfl rfl ⟨rfl, rfl, rfl, rfl, rfl⟩ rfl rfl rfl rfl rfl (by kernel_rfl) Tryd.func4 (by kernel_rfl)
    (of_decide_eq_true (by kernel_rfl)) (by unfold Func.isWrapper; first | (rw [if_pos (by decide +kernel)]; kernel_rfl) | (rw [if_neg (by decide +kernel)]; exact ⟨rfl, rfl⟩))
    (fun os started H0 enc _ F0 => by rw [OpenClaim.pre_eq_preRow]; exact lifted os started H0 enc F0)
theorem plain (f : FuncId) (fn : Func) (hf : Tryd.pinned.checked.prog.funcNamed "perigee/perigeelaw04.UnitDims" = some f) (hfn : Tryd.pinned.checked.prog.funcs[f]? = some fn) :
    true = Tryd.pinned.checked.prog.looks [] ∧ ∀ (j : Nat) t, fn.params[j]? = some t → Tryd.pinned.checked.prog.wantsStandIn t = false := by
  obtain rfl : f = 4 := Option.some.inj ((show Tryd.prog.funcNamed "perigee/perigeelaw04.UnitDims" = some 4 by kernel_rfl).symm.trans hf) |>.symm
  obtain rfl : fn = Tryd.f4 := (Option.some.inj (Tryd.func4.symm.trans hfn)).symm
  refine ⟨by kernel_rfl, fun j t ht => ?_⟩
  rw [Tryd.params4] at ht
  have hm : t ∈ [23, 23] := by simpa using Array.mem_of_getElem? ht
  have hall : ([23, 23].all fun u => !Tryd.prog.wantsStandIn u) = true := by kernel_rfl
  exact (show Tryd.prog.wantsStandIn t = false by simpa using List.all_eq_true.1 hall t hm)
/-- ████ THE CARD ████ -/
theorem proved : Rows.UnitDimsCardSaid :=
  Claim7.holds_tied_plain_at .later [] _ _ _ _ said (fun _ h => by cases h) (by kernel_rfl) (fun _ h => by cases h) unitDims_row_tie rfl ⟨rfl, rfl⟩ (by kernel_rfl) rfl plain (by kernel_rfl)
end Go.Proofs.YthcehhonahgfmaaDoor.unitDims
