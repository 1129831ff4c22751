/-
  For all intervals and two correlations at the same counter, ClockOrder returns true: narrowing by both in either order yields the same interval or the same error; and the chapter's examples hold.
-/
import Derived.Test.YtlmbpbhdbgadjaaKChk
import Derived.Test.YtlmbpbhdbgadjaaKKp3
import Derived.Test.YtlmbpbhdbgadjaaKMath2
import Derived.Deep.DeepCutAuto
import Derived.Deep.RegionHeld3
import Derived.Deep.LoopGhost
import Derived.Deep.QuietTactic
namespace Go.Proofs.Ytlmbpbhdbgadjaa.clockOrder
open Go.ChangeShapes Go.WideShapes Go.ChangeAt Go.RowKit
open Go.ChangeMaps (open_string shut_string)
set_option linter.unusedVariables false

set_option maxRecDepth 100000 in
set_option maxHeartbeats 4000000 in
theorem walk (x0 : K.Cs) (x1 : K.Cs) (w : World) (ok0 : x0.Ok) (ok1 : x1.Ok) :
    Calls Try.prog 11 #[x0.v, x1.v] w fun e w' => e = .returned (.bool true) ∧ Below w.heap.size w w' := by
  have HL := Lib.hid (fun W => K.lives_any W)
  have HI := Lib.hid (fun W => K.interval_any x0 W ok0)
  have HS0 := Lib.hid (fun W => K.sample_any x0 W ok0)
  have HS1 := Lib.hid (fun W => K.sample_any x1 W ok1)
  have HD := Lib.hid (fun W => K.drift_any x0.drift W ok0.2.2.2.2.2.2)
  obtain ⟨L0, N0, g0, g1⟩ := K.newC2 w x0 x1 23
  have hs := x0.bd
  have hs2 := x1.bd
  have hd := K.drf_bd x0.drift
  generalize K.tlo x0.lo = lo at *
  generalize K.thi x0.lo x0.wide = hi at *
  generalize x0.s = s at *
  generalize x0.r = r at *
  generalize x0.q = q at *
  generalize x0.now = n at *
  generalize x1.s = s' at *
  generalize x1.r = r' at *
  generalize x1.q = q' at *
  generalize x1.now = m at *
  generalize K.drf x0.drift = d at *
  obtain ⟨now, hnow⟩ : ∃ now, (if n < m then m else n) = now := ⟨_, rfl⟩
  have hn1 : n ≤ now ∧ m ≤ now ∧ now ≤ 1099511627776 := by rw [← hnow]; split <;> omega
  have HC := Lib.hid (fun lo hi s r q W => K.correlate_any lo hi s r q now d W hn1.2.2 hd.1 hd.2)
  have p1 : K.pls s r q now = true := K.pls_of hs.1 hs.2.1 (by omega) hs.2.2.2.2.1 hs.2.2.2.2.2
  have p2 : K.pls s' r' q' now = true := K.pls_of hs2.1 hs2.2.1 (by omega) hs2.2.2.2.2.1 hs2.2.2.2.2.2
  have HA1 := Lib.hid (fun W => HC.out lo hi s r q W)
  have HB1 := Lib.hid (fun W => HC.out lo hi s' r' q' W)
  have hord := K.order lo hi (K.alo q (now - r) d) (K.ahi (K.arr q (r - s) d) (now - r) d) (K.alo q' (now - r') d) (K.ahi (K.arr q' (r' - s') d) (now - r') d)
  rw [← K.cor_pls p1, ← K.cor_pls p2] at hord
  have HA2 := Lib.hid (fun W => HC.out (K.cor lo hi s r q now d).1 (K.cor lo hi s r q now d).2.1 s' r' q' W)
  have HB2 := Lib.hid (fun W => HC.out (K.cor lo hi s' r' q' now d).1 (K.cor lo hi s' r' q' now d).2.1 s r q W)
  rw [← K.cor_pls p2, ← K.cor_pls p1] at hord
  clear HC p1 p2 hs hs2 hd hn1 ok0 ok1
  generalize K.cor (K.cor lo hi s r q now d).1 (K.cor lo hi s r q now d).2.1 s' r' q' now d = A2 at *
  generalize K.cor (K.cor lo hi s' r' q' now d).1 (K.cor lo hi s' r' q' now d).2.1 s r q now d = B2 at *
  generalize K.cor lo hi s r q now d = A1 at *
  generalize K.cor lo hi s' r' q' now d = B1 at *
  obtain ⟨a1, b1, e1⟩ := A1
  obtain ⟨a2, b2, e2⟩ := A2
  obtain ⟨c1, d1, f1⟩ := B1
  obtain ⟨c2, d2, f2⟩ := B2
  dsimp only at HA1 HA2 HB1 HB2 hord
  have HORD := Lib.hid hord
  clear hord
  go_enter Try.func11, Try.ntmps11
  go_upto_region 4 with (first
    | (go_at_call 14; refine (HI.out _).mono ?_; rintro e w1 ⟨rfl, hB⟩; have N1 := (N0.call hB).new2 lo hi 25; obtain ⟨i0, i1, i2, i3, i4, i5, i6⟩ := N1.c7 (K.up2 g0); clear hB)
    | (go_at_call 20; with_reducible refine (HS0.out _).mono ?_; rintro e w2 ⟨rfl, hB⟩; have N2 := (N1.call hB).new3 s r q 32; obtain ⟨j0, j1, j2, j3, j4, j5, j6⟩ := N2.c7 (K.up3 (K.up2 g1)); clear hB i0 i1 i2 i3 i4 i5 i6)
    | (go_at_call 20; with_reducible refine (HS1.out _).mono ?_; rintro e w3 ⟨rfl, hB⟩; have N3 := (N2.call hB).new3 s' r' q' 32; obtain ⟨k0, k1, k2, k3, k4, k5, k6⟩ := N3.c7 (K.up3 (K.up3 (K.up2 g0))); clear hB j0 j1 j2 j3 j4 j5 j6))
  have m5a : (w1.heap.size, 0, lo) ∈ ((w3.heap.size, 0, s') :: (w3.heap.size, 1, r') :: (w3.heap.size, 2, q') :: (w2.heap.size, 0, s) :: (w2.heap.size, 1, r) :: (w2.heap.size, 2, q) :: (w1.heap.size, 0, lo) :: (w1.heap.size, 1, hi) :: L0 : K.CL) := by simp
  have m5b : (w1.heap.size, 1, hi) ∈ ((w3.heap.size, 0, s') :: (w3.heap.size, 1, r') :: (w3.heap.size, 2, q') :: (w2.heap.size, 0, s) :: (w2.heap.size, 1, r) :: (w2.heap.size, 2, q) :: (w1.heap.size, 0, lo) :: (w1.heap.size, 1, hi) :: L0 : K.CL) := by simp
  have m6a : (w2.heap.size, 0, s) ∈ ((w3.heap.size, 0, s') :: (w3.heap.size, 1, r') :: (w3.heap.size, 2, q') :: (w2.heap.size, 0, s) :: (w2.heap.size, 1, r) :: (w2.heap.size, 2, q) :: (w1.heap.size, 0, lo) :: (w1.heap.size, 1, hi) :: L0 : K.CL) := by simp
  have m6b : (w2.heap.size, 1, r) ∈ ((w3.heap.size, 0, s') :: (w3.heap.size, 1, r') :: (w3.heap.size, 2, q') :: (w2.heap.size, 0, s) :: (w2.heap.size, 1, r) :: (w2.heap.size, 2, q) :: (w1.heap.size, 0, lo) :: (w1.heap.size, 1, hi) :: L0 : K.CL) := by simp
  have m6c : (w2.heap.size, 2, q) ∈ ((w3.heap.size, 0, s') :: (w3.heap.size, 1, r') :: (w3.heap.size, 2, q') :: (w2.heap.size, 0, s) :: (w2.heap.size, 1, r) :: (w2.heap.size, 2, q) :: (w1.heap.size, 0, lo) :: (w1.heap.size, 1, hi) :: L0 : K.CL) := by simp
  have m8a : (w3.heap.size, 0, s') ∈ ((w3.heap.size, 0, s') :: (w3.heap.size, 1, r') :: (w3.heap.size, 2, q') :: (w2.heap.size, 0, s) :: (w2.heap.size, 1, r) :: (w2.heap.size, 2, q) :: (w1.heap.size, 0, lo) :: (w1.heap.size, 1, hi) :: L0 : K.CL) := by simp
  have m8b : (w3.heap.size, 1, r') ∈ ((w3.heap.size, 0, s') :: (w3.heap.size, 1, r') :: (w3.heap.size, 2, q') :: (w2.heap.size, 0, s) :: (w2.heap.size, 1, r) :: (w2.heap.size, 2, q) :: (w1.heap.size, 0, lo) :: (w1.heap.size, 1, hi) :: L0 : K.CL) := by simp
  have m8c : (w3.heap.size, 2, q') ∈ ((w3.heap.size, 0, s') :: (w3.heap.size, 1, r') :: (w3.heap.size, 2, q') :: (w2.heap.size, 0, s) :: (w2.heap.size, 1, r) :: (w2.heap.size, 2, q) :: (w1.heap.size, 0, lo) :: (w1.heap.size, 1, hi) :: L0 : K.CL) := by simp
  clear k0 k1 k2 k3 k4 k5 N2 N1 N0 g0 g1
  generalize ((w3.heap.size, 0, s') :: (w3.heap.size, 1, r') :: (w3.heap.size, 2, q') :: (w2.heap.size, 0, s) :: (w2.heap.size, 1, r) :: (w2.heap.size, 2, q) :: (w1.heap.size, 0, lo) :: (w1.heap.size, 1, hi) :: L0 : K.CL) = L at *
  generalize w3.alloc (.cells #[.int .i64 s', .int .i64 r', .int .i64 q'] 32) = X at *
  generalize w3.heap.size = b8 at *
  generalize w2.heap.size = b6 at *
  generalize w1.heap.size = b5 at *
  have x5a := N3.at m5a
  have x5b := N3.at m5b
  have x6a := N3.at m6a
  have x6b := N3.at m6b
  have x6c := N3.at m6c
  have hZ := N3.lt
  by_cases he : e1 = 0
  · subst he
    by_cases hf : f1 = 0
    · subst hf
      have hE : (a2, b2, e2) = (c2, d2, f2) := by have := HORD.out; simpa using this
      injection hE with z1 hE
      injection hE with z2 z3
      subst z1 z2 z3
      go_wp2_with (first
        | (go_at_call 17; refine (HD.out _).mono ?_; rintro e w9 ⟨rfl, hw9⟩; rw [hw9]; clear hw9 w9)
        | (go_at_call 21; with_reducible refine (HA1.out X).mono ?_; rintro e v1 ⟨rfl, hB⟩; have N4 := (N3.call hB).alloc (.cells #[.int .i64 a1, .int .i64 b1] 25); have q0 : (v1.alloc (.cells #[.int .i64 a1, .int .i64 b1] 25)).cell? ⟨v1.heap.size, 0, none⟩ = some (.int .i64 a1) := K.cell_top _ _ _ _; have q1 : (v1.alloc (.cells #[.int .i64 a1, .int .i64 b1] 25)).cell? ⟨v1.heap.size, 1, none⟩ = some (.int .i64 b1) := K.cell_top _ _ _ _; have M1 := (N3.call hB).lt; have y8a := N4.at m8a; have y8b := N4.at m8b; have y8c := N4.at m8c; have y5a := N4.at m5a; have y5b := N4.at m5b; clear hB)
        | (go_at_call 21; with_reducible refine (HA2.out (v1.alloc _)).mono ?_; rintro e v2 ⟨rfl, hB⟩; have N5 := N4.call hB; obtain ⟨y0, y1, y2, y3⟩ := K.row_cells (K.heap_keep hB (K.heap_top v1 (.cells #[.int .i64 a1, .int .i64 b1] 25))); have N6 := (N5.setc (o := 0) (v := .int .i64 a2) M1).setc (o := 1) (v := .int .i64 b2) M1; obtain ⟨u0, u1⟩ := K.set2_cells (u := .int .i64 a2) (v := .int .i64 b2) y0 y1; have t8a := N6.at m8a; have t8b := N6.at m8b; have t8c := N6.at m8c; have t5a := N6.at m5a; have t5b := N6.at m5b; clear hB)
        | (go_at_call 21; with_reducible refine (HB2.out (v3.alloc _)).mono ?_; rintro e v4 ⟨rfl, hB⟩; have N9 := N8.call hB; obtain ⟨s0, s1, s2, s3⟩ := K.row_cells (K.heap_keep hB (K.heap_top v3 (.cells #[.int .i64 c1, .int .i64 d1] 25))); have N10 := (N9.setc (o := 0) (v := .int .i64 a2) M3).setc (o := 1) (v := .int .i64 b2) M3; obtain ⟨s4, s5⟩ := K.set2_cells (u := .int .i64 a2) (v := .int .i64 b2) s0 s1; have p5 := K.set2_far (x := .int .i64 a2) (y := .int .i64 b2) (K.below_cell hB p2) p4; have p6 := K.set2_far (x := .int .i64 a2) (y := .int .i64 b2) (K.below_cell hB p3) p4; clear hB)
        | (go_at_call 21; with_reducible refine (HB1.out _).mono ?_; rintro e v3 ⟨rfl, hB⟩; have N7 := (by with_reducible (first | exact N6.call hB | exact N4.call hB) : K.Kp w _ L v3); have N8 := N7.alloc (.cells #[.int .i64 c1, .int .i64 d1] 25); have M3 := N7.lt; have p0 := (by first | exact K.below_cell hB u0 | exact K.below_cell hB q0 : v3.cell? ⟨v1.heap.size, 0, none⟩ = some (.int .i64 _)); have p1 := (by first | exact K.below_cell hB u1 | exact K.below_cell hB q1 : v3.cell? ⟨v1.heap.size, 1, none⟩ = some (.int .i64 _)); have p2 := K.cell_under (.cells #[.int .i64 c1, .int .i64 d1] 25) p0; have p3 := K.cell_under (.cells #[.int .i64 c1, .int .i64 d1] 25) p1; have p4 := World.block_lt_of_cell? _ _ p0; have r0 : (v3.alloc (.cells #[.int .i64 c1, .int .i64 d1] 25)).cell? ⟨v3.heap.size, 0, none⟩ = some (.int .i64 c1) := K.cell_top _ _ _ _; have r1 : (v3.alloc (.cells #[.int .i64 c1, .int .i64 d1] 25)).cell? ⟨v3.heap.size, 1, none⟩ = some (.int .i64 d1) := K.cell_top _ _ _ _; have o6a := N8.at m6a; have o6b := N8.at m6b; have o6c := N8.at m6c; clear hB)
        | (go_at_call 19; refine (HL.out _).mono ?_; rintro e v5 ⟨rfl, hB⟩; have NE := (by with_reducible (first | exact N10.call hB | exact N8.call hB) : K.Kp w _ L v5); clear hB))
      all_goals go_ret
      all_goals exact ⟨rfl, NE.bel⟩
    · have hE : (a2, b2, e2) = (c1, d1, f1) := by have := HORD.out; rw [if_pos rfl, if_neg hf] at this; exact this
      injection hE with z1 hE
      injection hE with z2 z3
      subst z1 z2 z3
      go_wp2_with (first
        | (go_at_call 17; refine (HD.out _).mono ?_; rintro e w9 ⟨rfl, hw9⟩; rw [hw9]; clear hw9 w9)
        | (go_at_call 21; with_reducible refine (HA1.out X).mono ?_; rintro e v1 ⟨rfl, hB⟩; have N4 := (N3.call hB).alloc (.cells #[.int .i64 a1, .int .i64 b1] 25); have q0 : (v1.alloc (.cells #[.int .i64 a1, .int .i64 b1] 25)).cell? ⟨v1.heap.size, 0, none⟩ = some (.int .i64 a1) := K.cell_top _ _ _ _; have q1 : (v1.alloc (.cells #[.int .i64 a1, .int .i64 b1] 25)).cell? ⟨v1.heap.size, 1, none⟩ = some (.int .i64 b1) := K.cell_top _ _ _ _; have M1 := (N3.call hB).lt; have y8a := N4.at m8a; have y8b := N4.at m8b; have y8c := N4.at m8c; have y5a := N4.at m5a; have y5b := N4.at m5b; clear hB)
        | (go_at_call 21; with_reducible refine (HA2.out (v1.alloc _)).mono ?_; rintro e v2 ⟨rfl, hB⟩; have N5 := N4.call hB; obtain ⟨y0, y1, y2, y3⟩ := K.row_cells (K.heap_keep hB (K.heap_top v1 (.cells #[.int .i64 a1, .int .i64 b1] 25))); have N6 := (N5.setc (o := 0) (v := .int .i64 a2) M1).setc (o := 1) (v := .int .i64 b2) M1; obtain ⟨u0, u1⟩ := K.set2_cells (u := .int .i64 a2) (v := .int .i64 b2) y0 y1; have t8a := N6.at m8a; have t8b := N6.at m8b; have t8c := N6.at m8c; have t5a := N6.at m5a; have t5b := N6.at m5b; clear hB)
        | (go_at_call 21; with_reducible refine (HB2.out (v3.alloc _)).mono ?_; rintro e v4 ⟨rfl, hB⟩; have N9 := N8.call hB; obtain ⟨s0, s1, s2, s3⟩ := K.row_cells (K.heap_keep hB (K.heap_top v3 (.cells #[.int .i64 a2, .int .i64 b2] 25))); have N10 := (N9.setc (o := 0) (v := .int .i64 c2) M3).setc (o := 1) (v := .int .i64 d2) M3; obtain ⟨s4, s5⟩ := K.set2_cells (u := .int .i64 c2) (v := .int .i64 d2) s0 s1; have p5 := K.set2_far (x := .int .i64 c2) (y := .int .i64 d2) (K.below_cell hB p2) p4; have p6 := K.set2_far (x := .int .i64 c2) (y := .int .i64 d2) (K.below_cell hB p3) p4; clear hB)
        | (go_at_call 21; with_reducible refine (HB1.out _).mono ?_; rintro e v3 ⟨rfl, hB⟩; have N7 := (by with_reducible (first | exact N6.call hB | exact N4.call hB) : K.Kp w _ L v3); have N8 := N7.alloc (.cells #[.int .i64 a2, .int .i64 b2] 25); have M3 := N7.lt; have p0 := (by first | exact K.below_cell hB u0 | exact K.below_cell hB q0 : v3.cell? ⟨v1.heap.size, 0, none⟩ = some (.int .i64 _)); have p1 := (by first | exact K.below_cell hB u1 | exact K.below_cell hB q1 : v3.cell? ⟨v1.heap.size, 1, none⟩ = some (.int .i64 _)); have p2 := K.cell_under (.cells #[.int .i64 a2, .int .i64 b2] 25) p0; have p3 := K.cell_under (.cells #[.int .i64 a2, .int .i64 b2] 25) p1; have p4 := World.block_lt_of_cell? _ _ p0; have r0 : (v3.alloc (.cells #[.int .i64 a2, .int .i64 b2] 25)).cell? ⟨v3.heap.size, 0, none⟩ = some (.int .i64 a2) := K.cell_top _ _ _ _; have r1 : (v3.alloc (.cells #[.int .i64 a2, .int .i64 b2] 25)).cell? ⟨v3.heap.size, 1, none⟩ = some (.int .i64 b2) := K.cell_top _ _ _ _; have o6a := N8.at m6a; have o6b := N8.at m6b; have o6c := N8.at m6c; clear hB)
        | (go_at_call 19; refine (HL.out _).mono ?_; rintro e v5 ⟨rfl, hB⟩; have NE := (by with_reducible (first | exact N10.call hB | exact N8.call hB) : K.Kp w _ L v5); clear hB))
      all_goals go_ret
      all_goals exact ⟨rfl, NE.bel⟩
  · by_cases hf : f1 = 0
    · subst hf
      have hE : (a1, b1, e1) = (c2, d2, f2) := by have := HORD.out; rw [if_neg he, if_pos rfl] at this; exact this
      injection hE with z1 hE
      injection hE with z2 z3
      subst z1 z2 z3
      go_wp2_with (first
        | (go_at_call 17; refine (HD.out _).mono ?_; rintro e w9 ⟨rfl, hw9⟩; rw [hw9]; clear hw9 w9)
        | (go_at_call 21; with_reducible refine (HA1.out X).mono ?_; rintro e v1 ⟨rfl, hB⟩; have N4 := (N3.call hB).alloc (.cells #[.int .i64 a1, .int .i64 b1] 25); have q0 : (v1.alloc (.cells #[.int .i64 a1, .int .i64 b1] 25)).cell? ⟨v1.heap.size, 0, none⟩ = some (.int .i64 a1) := K.cell_top _ _ _ _; have q1 : (v1.alloc (.cells #[.int .i64 a1, .int .i64 b1] 25)).cell? ⟨v1.heap.size, 1, none⟩ = some (.int .i64 b1) := K.cell_top _ _ _ _; have M1 := (N3.call hB).lt; have y8a := N4.at m8a; have y8b := N4.at m8b; have y8c := N4.at m8c; have y5a := N4.at m5a; have y5b := N4.at m5b; clear hB)
        | (go_at_call 21; with_reducible refine (HA2.out (v1.alloc _)).mono ?_; rintro e v2 ⟨rfl, hB⟩; have N5 := N4.call hB; obtain ⟨y0, y1, y2, y3⟩ := K.row_cells (K.heap_keep hB (K.heap_top v1 (.cells #[.int .i64 a1, .int .i64 b1] 25))); have N6 := (N5.setc (o := 0) (v := .int .i64 a2) M1).setc (o := 1) (v := .int .i64 b2) M1; obtain ⟨u0, u1⟩ := K.set2_cells (u := .int .i64 a2) (v := .int .i64 b2) y0 y1; have t8a := N6.at m8a; have t8b := N6.at m8b; have t8c := N6.at m8c; have t5a := N6.at m5a; have t5b := N6.at m5b; clear hB)
        | (go_at_call 21; with_reducible refine (HB2.out (v3.alloc _)).mono ?_; rintro e v4 ⟨rfl, hB⟩; have N9 := N8.call hB; obtain ⟨s0, s1, s2, s3⟩ := K.row_cells (K.heap_keep hB (K.heap_top v3 (.cells #[.int .i64 c1, .int .i64 d1] 25))); have N10 := (N9.setc (o := 0) (v := .int .i64 a1) M3).setc (o := 1) (v := .int .i64 b1) M3; obtain ⟨s4, s5⟩ := K.set2_cells (u := .int .i64 a1) (v := .int .i64 b1) s0 s1; have p5 := K.set2_far (x := .int .i64 a1) (y := .int .i64 b1) (K.below_cell hB p2) p4; have p6 := K.set2_far (x := .int .i64 a1) (y := .int .i64 b1) (K.below_cell hB p3) p4; clear hB)
        | (go_at_call 21; with_reducible refine (HB1.out _).mono ?_; rintro e v3 ⟨rfl, hB⟩; have N7 := (by with_reducible (first | exact N6.call hB | exact N4.call hB) : K.Kp w _ L v3); have N8 := N7.alloc (.cells #[.int .i64 c1, .int .i64 d1] 25); have M3 := N7.lt; have p0 := (by first | exact K.below_cell hB u0 | exact K.below_cell hB q0 : v3.cell? ⟨v1.heap.size, 0, none⟩ = some (.int .i64 _)); have p1 := (by first | exact K.below_cell hB u1 | exact K.below_cell hB q1 : v3.cell? ⟨v1.heap.size, 1, none⟩ = some (.int .i64 _)); have p2 := K.cell_under (.cells #[.int .i64 c1, .int .i64 d1] 25) p0; have p3 := K.cell_under (.cells #[.int .i64 c1, .int .i64 d1] 25) p1; have p4 := World.block_lt_of_cell? _ _ p0; have r0 : (v3.alloc (.cells #[.int .i64 c1, .int .i64 d1] 25)).cell? ⟨v3.heap.size, 0, none⟩ = some (.int .i64 c1) := K.cell_top _ _ _ _; have r1 : (v3.alloc (.cells #[.int .i64 c1, .int .i64 d1] 25)).cell? ⟨v3.heap.size, 1, none⟩ = some (.int .i64 d1) := K.cell_top _ _ _ _; have o6a := N8.at m6a; have o6b := N8.at m6b; have o6c := N8.at m6c; clear hB)
        | (go_at_call 19; refine (HL.out _).mono ?_; rintro e v5 ⟨rfl, hB⟩; have NE := (by with_reducible (first | exact N10.call hB | exact N8.call hB) : K.Kp w _ L v5); clear hB))
      all_goals go_ret
      all_goals exact ⟨rfl, NE.bel⟩
    · have hE : (a1, b1, e1) = (c1, d1, f1) := by have := HORD.out; rw [if_neg he, if_neg hf] at this; exact this
      injection hE with z1 hE
      injection hE with z2 z3
      subst z1 z2 z3
      go_wp2_with (first
        | (go_at_call 17; refine (HD.out _).mono ?_; rintro e w9 ⟨rfl, hw9⟩; rw [hw9]; clear hw9 w9)
        | (go_at_call 21; with_reducible refine (HA1.out X).mono ?_; rintro e v1 ⟨rfl, hB⟩; have N4 := (N3.call hB).alloc (.cells #[.int .i64 a1, .int .i64 b1] 25); have q0 : (v1.alloc (.cells #[.int .i64 a1, .int .i64 b1] 25)).cell? ⟨v1.heap.size, 0, none⟩ = some (.int .i64 a1) := K.cell_top _ _ _ _; have q1 : (v1.alloc (.cells #[.int .i64 a1, .int .i64 b1] 25)).cell? ⟨v1.heap.size, 1, none⟩ = some (.int .i64 b1) := K.cell_top _ _ _ _; have M1 := (N3.call hB).lt; have y8a := N4.at m8a; have y8b := N4.at m8b; have y8c := N4.at m8c; have y5a := N4.at m5a; have y5b := N4.at m5b; clear hB)
        | (go_at_call 21; with_reducible refine (HA2.out (v1.alloc _)).mono ?_; rintro e v2 ⟨rfl, hB⟩; have N5 := N4.call hB; obtain ⟨y0, y1, y2, y3⟩ := K.row_cells (K.heap_keep hB (K.heap_top v1 (.cells #[.int .i64 a1, .int .i64 b1] 25))); have N6 := (N5.setc (o := 0) (v := .int .i64 a2) M1).setc (o := 1) (v := .int .i64 b2) M1; obtain ⟨u0, u1⟩ := K.set2_cells (u := .int .i64 a2) (v := .int .i64 b2) y0 y1; have t8a := N6.at m8a; have t8b := N6.at m8b; have t8c := N6.at m8c; have t5a := N6.at m5a; have t5b := N6.at m5b; clear hB)
        | (go_at_call 21; with_reducible refine (HB2.out (v3.alloc _)).mono ?_; rintro e v4 ⟨rfl, hB⟩; have N9 := N8.call hB; obtain ⟨s0, s1, s2, s3⟩ := K.row_cells (K.heap_keep hB (K.heap_top v3 (.cells #[.int .i64 a1, .int .i64 b1] 25))); have N10 := (N9.setc (o := 0) (v := .int .i64 c2) M3).setc (o := 1) (v := .int .i64 d2) M3; obtain ⟨s4, s5⟩ := K.set2_cells (u := .int .i64 c2) (v := .int .i64 d2) s0 s1; have p5 := K.set2_far (x := .int .i64 c2) (y := .int .i64 d2) (K.below_cell hB p2) p4; have p6 := K.set2_far (x := .int .i64 c2) (y := .int .i64 d2) (K.below_cell hB p3) p4; clear hB)
        | (go_at_call 21; with_reducible refine (HB1.out _).mono ?_; rintro e v3 ⟨rfl, hB⟩; have N7 := (by with_reducible (first | exact N6.call hB | exact N4.call hB) : K.Kp w _ L v3); have N8 := N7.alloc (.cells #[.int .i64 a1, .int .i64 b1] 25); have M3 := N7.lt; have p0 := (by first | exact K.below_cell hB u0 | exact K.below_cell hB q0 : v3.cell? ⟨v1.heap.size, 0, none⟩ = some (.int .i64 _)); have p1 := (by first | exact K.below_cell hB u1 | exact K.below_cell hB q1 : v3.cell? ⟨v1.heap.size, 1, none⟩ = some (.int .i64 _)); have p2 := K.cell_under (.cells #[.int .i64 a1, .int .i64 b1] 25) p0; have p3 := K.cell_under (.cells #[.int .i64 a1, .int .i64 b1] 25) p1; have p4 := World.block_lt_of_cell? _ _ p0; have r0 : (v3.alloc (.cells #[.int .i64 a1, .int .i64 b1] 25)).cell? ⟨v3.heap.size, 0, none⟩ = some (.int .i64 a1) := K.cell_top _ _ _ _; have r1 : (v3.alloc (.cells #[.int .i64 a1, .int .i64 b1] 25)).cell? ⟨v3.heap.size, 1, none⟩ = some (.int .i64 b1) := K.cell_top _ _ _ _; have o6a := N8.at m6a; have o6b := N8.at m6b; have o6c := N8.at m6c; clear hB)
        | (go_at_call 19; refine (HL.out _).mono ?_; rintro e v5 ⟨rfl, hB⟩; have NE := (by with_reducible (first | exact N10.call hB | exact N8.call hB) : K.Kp w _ L v5); clear hB))
      all_goals go_ret
      all_goals exact ⟨rfl, NE.bel⟩

set_option maxRecDepth 100000 in
theorem lifted (os : Os) (started : os.Started) (H0 : Type) (enc : TypeId × Value → H0) :
    ReturnsInHanded {} Try.checked os 11 .any (Rows.clockOrderSpec.pre6 enc Try.prog Try.f11 Rows.clockOrderRow.domain false) (Rows.clockOrderSpec.post enc Try.prog Try.f11 false true false false) := by
  refine returnsInHanded_of_change_sized (C := Try.checked) Go.Proofs.Ytlmbpbhdbgadjaa.O.own started (by kernel_rfl) Try.func11
    (ChangeSpec.witness6 (enc := enc) (C := Try.checked) false ⟨#[], #[.agg #[.int .i64 0, .int .i64 0, .int .i64 0, .int .i64 0, .int .i64 0, .int .i64 0, .int .i64 0], .agg #[.int .i64 0, .int .i64 0, .int .i64 0, .int .i64 0, .int .i64 0, .int .i64 0, .int .i64 0]], []⟩ 8 (by kernel_rfl) (by kernel_rfl) (by kernel_rfl) (by kernel_rfl)) ?_
  intro W base args ds gs before hval0 hW hcnd hsz0 _
  have hsz : (DataW.weightsEach Try.prog (Try.f11.params.toList ++ Rows.clockOrderSpec.plain.varTypes Try.prog) (ds ++ gs)).all (· ≤ reachBytes) = true := hsz0
  clear hsz0
  have hval : ∀ (j : Nat) t v, Try.f11.params[j]? = some t → args[j]? = some v → Value.okWide Try.prog W .any base t v := hval0
  have hW' := hW
  obtain ⟨p, q, hA0, hV, rfl, hfz, hnd⟩ := hW
  have hA : DataW.TrodAll enc Try.prog W 0 (fun _ => true) true Try.f11.params.toList args.toList ds p := hA0
  rw [Try.params11] at hA hval hsz
  obtain ⟨v0, vs0, d0, ds0, p0, q0, hargs, rfl, rfl, h0, r0⟩ := trodAll_cons hA
  obtain ⟨v1, vs1, d1, ds1, p1, q1, rfl, rfl, rfl, h1, r1⟩ := trodAll_cons r0
  obtain ⟨rfl, rfl, rfl⟩ := trodAll_nil r1
  obtain rfl : args = #[v0, v1] := by cases args; simp_all
  obtain ⟨rfl, rfl⟩ := trodVars_none hV
  have k0 := h0
  have lt0 : ∀ x ∈ p0, x.block < W.heap.size := by obtain ⟨m, hm⟩ := k0; exact DataW.trod_lt m _ _ _ hm
  obtain ⟨x0, rfl, ok0⟩ := Go.Proofs.Ytlmbpbhdbgadjaa.K.open_Cs (hval 0 23 v0 rfl rfl) h0
  have k1 := h1
  have lt1 : ∀ x ∈ p1, x.block < W.heap.size := by obtain ⟨m, hm⟩ := k1; exact DataW.trod_lt m _ _ _ hm
  obtain ⟨x1, rfl, ok1⟩ := Go.Proofs.Ytlmbpbhdbgadjaa.K.open_Cs (hval 1 23 v1 rfl rfl) h1
  clear hA0 hval0
  refine (walk x0 x1 W ok0 ok1).mono fun e W' ⟨he, bel⟩ => ?_
  subst he
  exact ⟨_, rfl, _, _, _, [], _, [], hW', trodAll_mk1 (shut_bool Try.underlying4 _), (trodAll_cons_mk (Below.trod Go.Proofs.Ytlmbpbhdbgadjaa.O.laidOut (by kernel_rfl) (of_decide_eq_true (by kernel_rfl)) k0 bel lt0) (trodAll_cons_mk (Below.trod Go.Proofs.Ytlmbpbhdbgadjaa.O.laidOut (by kernel_rfl) (of_decide_eq_true (by kernel_rfl)) k1 bel lt1) trodAll_mk0)), rfl, bel.frame _, fun h => by cases h⟩

/-- ████ THE STATEMENT ████ -/
theorem proved : Rows.ClockOrderSaid :=
  OpenClaim.holds_of_wide 11 Try.f11 rfl rfl rfl rfl rfl rfl rfl ⟨rfl, rfl, rfl, rfl, rfl⟩ rfl rfl rfl rfl rfl (by kernel_rfl) Try.func11 (by kernel_rfl)
    (of_decide_eq_true (by kernel_rfl)) (by unfold Func.isWrapper; first | (rw [if_pos (by decide +kernel)]; kernel_rfl) | (rw [if_neg (by decide +kernel)]; exact ⟨rfl, rfl⟩))
    (fun os started H0 enc _ => lifted os started H0 enc)
end Go.Proofs.Ytlmbpbhdbgadjaa.clockOrder
