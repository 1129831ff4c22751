/-
  Contracts of the specification's functions of dimensions and quantities.
-/
import Derived.Test.YthcehhonahgfmaaDoorUMath
import Derived.Test.YthcehhonahgfmaaDoorKit
import Derived.Test.YthcehhonahgfmaaDoorProg
import Derived.Deep.LoopGhost
import Derived.Deep.RegionWith
import Derived.Deep.QuietTactic
import Derived.BigQuiet
import Derived.WalkSmall
namespace Go.Proofs.YthcehhonahgfmaaDoor
open Go.RowKit
namespace U
open H
set_option linter.unusedVariables false

theorem bcell {W w1 : World} (hb : Below W.heap.size W w1) : (∀ b o, b < W.heap.size → w1.cell? ⟨b, o, none⟩ = W.cell? ⟨b, o, none⟩) ∧ (∀ b o, b < W.heap.size → w1.frozen? ⟨b, o, none⟩ = W.frozen? ⟨b, o, none⟩) :=
  ⟨fun b o h => hb.cell (p := ⟨b, o, none⟩) h, fun b o h => hb.frozen (p := ⟨b, o, none⟩) h⟩
theorem bel1 (w : World) (A : Obj) : Below w.heap.size w (w.alloc A) := (Below.refl _ _).alloc (Nat.le_refl _) _
theorem bel2 (w : World) (A B : Obj) : Below w.heap.size w ((w.alloc A).alloc B) := (bel1 w A).alloc (by simp) _
theorem bel3 (w : World) (A B C : Obj) : Below w.heap.size w (((w.alloc A).alloc B).alloc C) := (bel2 w A B).alloc (by simp; omega) _
theorem mul_bd {k x K X : Int} (hk : -K ≤ k ∧ k ≤ K) (hx : -X ≤ x ∧ x ≤ X) : -(K * X) ≤ k * x ∧ k * x ≤ K * X := by
  have hX : 0 ≤ X := by omega
  have hK : 0 ≤ K := by omega
  have h : k.natAbs * x.natAbs ≤ K.natAbs * X.natAbs := Nat.mul_le_mul (by omega) (by omega)
  rw [← Int.natAbs_mul, ← Int.natAbs_mul] at h
  have h2 : ((K * X).natAbs : Int) = K * X := Int.natAbs_of_nonneg (Int.mul_nonneg hK hX)
  omega

set_option maxRecDepth 100000 in
set_option maxHeartbeats 1000000 in
theorem rraised_any (x : Dm) (k : Int) (w : World) (hx : x.in 1000) (hk : -1000 ≤ k ∧ k ≤ 1000) :
    Calls Tryd.prog 43 #[.agg #[.int .i64 x.e, .int .i64 x.d, .int .i64 x.t, .int .i64 x.a, .int .i64 x.h], .int .i64 k] w fun r w' => r = .returned (.agg #[.int .i64 (x.raised k).e, .int .i64 (x.raised k).d, .int .i64 (x.raised k).t, .int .i64 (x.raised k).a, .int .i64 (x.raised k).h]) ∧ Below w.heap.size w w' := by
  obtain ⟨e, d, t, a, h⟩ := x
  obtain ⟨he, hd, ht, ha, hh⟩ := hx
  have b1 := mul_bd hk he
  have b2 := mul_bd hk hd
  have b3 := mul_bd hk ht
  have b4 := mul_bd hk ha
  have b5 := mul_bd hk hh
  show Calls _ _ _ w fun r w' => r = .returned (.agg #[.int .i64 (k * e), .int .i64 (k * d), .int .i64 (k * t), .int .i64 (k * a), .int .i64 (k * h)]) ∧ Below w.heap.size w w'
  dsimp only at *
  clear hk he hd ht ha hh
  go_enter Tryd.func43, Tryd.ntmps43
  go_wp2_with fail
  refine bodyPost_ret (v := .agg #[.int .i64 (k * e), .int .i64 (k * d), .int .i64 (k * t), .int .i64 (k * a), .int .i64 (k * h)]) (by simp [results, Tryd.results43, go_sem]) rfl ⟨rfl, ?_⟩
  exact bel2 w _ _
set_option maxRecDepth 100000 in
set_option maxHeartbeats 1000000 in
theorem rtimes_any (x y : Dm) (w : World) (hx : x.in 1000000) (hy : y.in 1000000) :
    Calls Tryd.prog 19 #[.agg #[.int .i64 x.e, .int .i64 x.d, .int .i64 x.t, .int .i64 x.a, .int .i64 x.h], .agg #[.int .i64 y.e, .int .i64 y.d, .int .i64 y.t, .int .i64 y.a, .int .i64 y.h]] w fun r w' => r = .returned (.agg #[.int .i64 (x.times y).e, .int .i64 (x.times y).d, .int .i64 (x.times y).t, .int .i64 (x.times y).a, .int .i64 (x.times y).h]) ∧ Below w.heap.size w w' := by
  obtain ⟨e, d, t, a, h⟩ := x
  obtain ⟨e2, d2, t2, a2, h2⟩ := y
  obtain ⟨he, hd, ht, ha, hh⟩ := hx
  obtain ⟨he2, hd2, ht2, ha2, hh2⟩ := hy
  show Calls _ _ _ w fun r w' => r = .returned (.agg #[.int .i64 (e + e2), .int .i64 (d + d2), .int .i64 (t + t2), .int .i64 (a + a2), .int .i64 (h + h2)]) ∧ Below w.heap.size w w'
  dsimp only at *
  go_enter Tryd.func19, Tryd.ntmps19
  go_wp2_with fail
  refine bodyPost_ret (v := .agg #[.int .i64 (e + e2), .int .i64 (d + d2), .int .i64 (t + t2), .int .i64 (a + a2), .int .i64 (h + h2)]) (by simp [results, Tryd.results19, go_sem]) rfl ⟨rfl, bel3 w _ _ _⟩
theorem in_raised {x : Dm} {k X : Int} (hx : x.in X) (hk : -1 ≤ k ∧ k ≤ 1) : (x.raised k).in X := by
  obtain ⟨e, d, t, a, h⟩ := x
  obtain ⟨he, hd, ht, ha, hh⟩ := hx
  have hk3 : k = -1 ∨ k = 0 ∨ k = 1 := by omega
  unfold Dm.raised Dm.in
  dsimp only at *
  rcases hk3 with rfl | rfl | rfl <;> omega
theorem over_eq (x y : Dm) : x.times (y.raised (-1)) = x.over y := by
  unfold Dm.times Dm.raised Dm.over
  simp only [Dm.mk.injEq]
  omega
set_option maxRecDepth 100000 in
set_option maxHeartbeats 1000000 in
theorem rover_any (x y : Dm) (w : World) (hx : x.in 1000) (hy : y.in 1000) :
    Calls Tryd.prog 21 #[.agg #[.int .i64 x.e, .int .i64 x.d, .int .i64 x.t, .int .i64 x.a, .int .i64 x.h], .agg #[.int .i64 y.e, .int .i64 y.d, .int .i64 y.t, .int .i64 y.a, .int .i64 y.h]] w fun r w' => r = .returned (.agg #[.int .i64 (x.over y).e, .int .i64 (x.over y).d, .int .i64 (x.over y).t, .int .i64 (x.over y).a, .int .i64 (x.over y).h]) ∧ Below w.heap.size w w' := by
  have hra := fun W => rraised_any y (-1) W hy (by omega)
  have hti := fun W => rtimes_any x (y.raised (-1)) W (by unfold Dm.in at *; omega) (by have := in_raised hy (k := -1) (by omega); unfold Dm.in at *; omega)
  rw [over_eq] at hti
  have HR := Lib.hid hra
  have HT := Lib.hid hti
  clear hra hti hx hy
  generalize x.over y = z at *
  generalize y.raised (-1) = y2 at *
  go_enter Tryd.func21, Tryd.ntmps21
  go_wp2_with fail
  go_region_with (first | (go_at_call 43; refine (HR.out _).mono ?_; rintro r w2 ⟨rfl, hB2⟩; obtain ⟨hc2, hf2⟩ := bcell hB2; have hz2 : w.heap.size + 1 + 1 < w2.heap.size := (by { have := hB2.size; simp at this; omega }); have HB2 := Lib.hid hB2; clear hB2) | (go_at_call 19; refine (HT.out _).mono ?_; rintro r w3 ⟨rfl, hB3⟩; obtain ⟨hc3, hf3⟩ := bcell hB3; have HB3 := Lib.hid hB3; clear hB3))
  all_goals
    go_wp2_with fail
    refine bodyPost_ret (v := .agg #[.int .i64 z.e, .int .i64 z.d, .int .i64 z.t, .int .i64 z.a, .int .i64 z.h]) (by simp [results, Tryd.results21, go_sem, hc3, hc2, hz2]) rfl ⟨rfl, ?_⟩
    have h := (((bel3 w _ _ _).drew).trans (HB2.out.mono (by simp; omega))).trans (HB3.out.mono (by omega))
    exact (((((h.setCell (by simp; omega) _).setCell (by simp; omega) _).setCell (by simp; omega) _).setCell (by simp; omega) _).setCell (by simp; omega) _)
end U
end Go.Proofs.YthcehhonahgfmaaDoor
