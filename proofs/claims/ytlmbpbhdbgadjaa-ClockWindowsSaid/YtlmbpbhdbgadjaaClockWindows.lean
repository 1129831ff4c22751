/-
  For all intervals and windows, ClockWindows returns true: Judge is 0 exactly if the first and the last tick lie in the window; then it is 0 for every interval that ends likewise and lies within; and if it is 1, it is 1 after every Advance; and the chapter's examples hold.
-/
import Derived.Test.YtlmbpbhdbgadjaaKChk
import Derived.Test.YtlmbpbhdbgadjaaKKp3
import Derived.Test.YtlmbpbhdbgadjaaKMath2
import Derived.Deep.DeepCutAuto
import Derived.Deep.RegionHeld3
import Derived.Deep.LoopGhost
import Derived.Deep.QuietTactic
namespace Go.Proofs.Ytlmbpbhdbgadjaa.clockWindows
open Go.ChangeShapes Go.WideShapes Go.ChangeAt Go.RowKit
open Go.ChangeMaps (open_string shut_string)
set_option linter.unusedVariables false

set_option maxRecDepth 100000 in
set_option maxHeartbeats 4000000 in
theorem walk (x0 : K.Cs) (a1 : Int) (a2 : Int) (a3 : Int) (w : World) (ok0 : x0.Ok) (w1 : (Lit.int .i64 a1).wf = true) (w2 : (Lit.int .i64 a2).wf = true) (w3 : (Lit.int .i64 a3).wf = true) :
    Calls Try.prog 12 #[x0.v, .int .i64 a1, .int .i64 a2, .int .i64 a3] w fun e w' => e = .returned (.bool true) ∧ Below w.heap.size w w' := by
  have q3 := H.i64_range w3
  have HL := Lib.hid (fun W => K.lives_any W)
  have HI := Lib.hid (fun W => K.interval_any x0 W ok0)
  have HC := Lib.hid (fun W => K.counted_any x0.took W ok0.2.2.2.1)
  have HD := Lib.hid (fun W => K.drift_any x0.drift W ok0.2.2.2.2.2.2)
  have N0 := (K.Kp.start w).newC x0 23
  have ht := K.t_bd x0.lo x0.wide
  have hc := K.cnt_bd x0.took
  have hd := K.drf_bd x0.drift
  clear ok0 w1 w2 w3
  generalize K.tlo x0.lo = lo at *
  generalize K.thi x0.lo x0.wide = hi at *
  generalize K.cnt x0.took = k at *
  generalize K.drf x0.drift = d at *
  have hu := H.around_lt a3 (m := hi - lo + 1) (by omega)
  have HU : RowKit.Hid (∀ m, m = hi - lo + 1 → ∀ W, Calls Try.prog 23 #[.int .i64 a3, .int .i64 m] W fun e w' => e = .returned (.int .i64 (H.around a3 (hi - lo + 1))) ∧ w' = W) := Lib.hid (by
    intro m hm W; subst hm; exact H.around_any a3 _ q3.1 q3.2 (by omega) (by omega) W)
  generalize H.around a3 (hi - lo + 1) = u at *
  have HV := Lib.hid (fun W => K.advance_any lo hi k d W ⟨by omega, by omega⟩ ⟨by omega, by omega⟩ hc.1 (by omega) hd.1 hd.2)
  have hnx : hi ≤ K.ahi hi k d := by
    unfold K.ahi
    have := K.cd_nonneg hc.1 hd.1
    exact K.le_lim (by omega) (by omega)
  generalize K.alo lo k d = nl at *
  generalize K.ahi hi k d = nh at *
  have hw1 : IntKind.i64.wrap (hi - lo) = hi - lo := IntWalk.i64_in _ (by omega)
  have hw2 : IntKind.i64.wrap (hi - lo + 1) = hi - lo + 1 := IntWalk.i64_in _ (by omega)
  have hw3 : IntKind.i64.wrap (lo + u) = lo + u := IntWalk.i64_in _ (by omega)
  clear q3 hc hd
  have HJ := Lib.hid (fun l h W => K.judge_any l h a1 a2 W)
  have hcase : (a2 ≤ hi ∧ a1 ≤ lo) ∨ (a2 ≤ hi ∧ ¬ a1 ≤ lo) ∨ (¬ a2 ≤ hi ∧ ¬ a1 ≤ lo) ∨ (¬ a2 ≤ hi ∧ a1 ≤ lo) := by omega
  rcases hcase with ⟨g1, g2⟩ | ⟨g1, g2⟩ | ⟨g1, g2⟩ | ⟨g1, g2⟩
  · have hj : K.jud lo hi a1 a2 = 1 := if_pos g1
    have HJ1 : RowKit.Hid (∀ W, Calls Try.prog 26 #[K.iv lo hi, .int .i64 a1, .int .i64 a2] W fun e w' => e = .returned (.int .i64 1) ∧ RowKit.Below W.heap.size W w') := Lib.hid (fun W => by have h := HJ.out lo hi W; rwa [hj] at h)
    have HJ3 : RowKit.Hid (∀ W, Calls Try.prog 26 #[K.iv nl nh, .int .i64 a1, .int .i64 a2] W fun e w' => e = .returned (.int .i64 1) ∧ RowKit.Below W.heap.size W w') := Lib.hid (fun W => by have h := HJ.out nl nh W; rwa [show K.jud nl nh a1 a2 = 1 from if_pos (by omega)] at h)
    clear hj hnx ht hu
    go_enter Try.func12, Try.ntmps12
    go_upto_region 6 with (first
      | (go_at_call 14; refine (HI.out _).mono ?_; rintro e w1 ⟨rfl, hB⟩; have N1 := (N0.call hB).new2 lo hi 25; clear hB N0)
      | (go_at_call 26; with_reducible refine (HJ1.out _).mono ?_; rintro e w2 ⟨rfl, hB⟩; have N2 := N1.call hB; have i0 := N2.at (b := w1.heap.size) (o := 0) (n := lo) (by simp); have i1 := N2.at (b := w1.heap.size) (o := 1) (n := hi) (by simp); clear hB N1))
    have m0 : (w1.heap.size, 0, lo) ∈ ((w1.heap.size, 0, lo) :: (w1.heap.size, 1, hi) :: (K.csL w.heap.size x0 ++ []) : K.CL) := by simp
    have m1 : (w1.heap.size, 1, hi) ∈ ((w1.heap.size, 0, lo) :: (w1.heap.size, 1, hi) :: (K.csL w.heap.size x0 ++ []) : K.CL) := by simp
    have m3 : (w.heap.size, 3, x0.took) ∈ ((w1.heap.size, 0, lo) :: (w1.heap.size, 1, hi) :: (K.csL w.heap.size x0 ++ []) : K.CL) := by simp [K.csL]
    have m6 : (w.heap.size, 6, x0.drift) ∈ ((w1.heap.size, 0, lo) :: (w1.heap.size, 1, hi) :: (K.csL w.heap.size x0 ++ []) : K.CL) := by simp [K.csL]
    generalize ((w1.heap.size, 0, lo) :: (w1.heap.size, 1, hi) :: (K.csL w.heap.size x0 ++ []) : K.CL) = L at *
    generalize w1.heap.size = bt at *
    go_wp2_with fail
    have NA := N2.alloc (.cells #[.int .i64 lo, .int .i64 hi] 25)
    have NB := N2.alloc (.cells #[.int .i64 (lo + u), .int .i64 hi] 25)
    go_region_held3 (fun W => W.cell? ⟨bt, 0, none⟩ = some (.int .i64 lo) ∧ W.cell? ⟨bt, 1, none⟩ = some (.int .i64 hi)) (with_reducible (first | exact ⟨NA.drew.at m0, NA.drew.at m1⟩ | exact ⟨NB.drew.at m0, NB.drew.at m1⟩)) ((go_at_call 23; with_reducible refine (HU.out _ (by omega) _).mono ?_; rintro e w9 ⟨rfl, hw9⟩; rw [hw9]; clear hw9 w9))
    clear hw1 hw2 hw3
    go_upto_region 9 with fail
    have NC := NB.drew
    generalize (w2.alloc (.cells #[.int .i64 (lo + u), .int .i64 hi] 25)).drew = v3 at *
    go_cut [12] (fun sp wx => ∃ g : Nat, sp = .pointer (some ⟨g, 0, none⟩) ∧ K.Kp w wx.heap.size ((g, 0, nl) :: (g, 1, nh) :: L) wx)
    case first =>
      go_region_held3 (fun W => W.cell? ⟨bt, 0, none⟩ = some (.int .i64 lo) ∧ W.cell? ⟨bt, 1, none⟩ = some (.int .i64 hi) ∧ W.cell? ⟨w.heap.size, 3, none⟩ = some (.int .i64 x0.took) ∧ W.cell? ⟨w.heap.size, 6, none⟩ = some (.int .i64 x0.drift)) (with_reducible (first | exact ⟨(((N_1.setc M_z).setc M_z)).at m0, (((N_1.setc M_z).setc M_z)).at m1, (((N_1.setc M_z).setc M_z)).at m3, (((N_1.setc M_z).setc M_z)).at m6⟩ | exact ⟨((N_1.alloc _)).at m0, ((N_1.alloc _)).at m1, ((N_1.alloc _)).at m3, ((N_1.alloc _)).at m6⟩ | exact ⟨(N_1).at m0, (N_1).at m1, (N_1).at m3, (N_1).at m6⟩ | exact ⟨((NC.alloc _).drew).at m0, ((NC.alloc _).drew).at m1, ((NC.alloc _).drew).at m3, ((NC.alloc _).drew).at m6⟩ | exact ⟨(NC.drew).at m0, (NC.drew).at m1, (NC.drew).at m3, (NC.drew).at m6⟩))
        ((first
          | (go_at_call 16; with_reducible refine (HC.out _).mono ?_; rintro e w9 ⟨rfl, hw9⟩; rw [hw9]; clear hw9 w9)
          | (go_at_call 17; with_reducible refine (HD.out _).mono ?_; rintro e w9 ⟨rfl, hw9⟩; rw [hw9]; clear hw9 w9)
          | (go_at_call 15; with_reducible refine (HV.out _).mono ?_; rintro e v1 ⟨rfl, hB⟩; have N_1 := (by with_reducible (first | exact NC.drew.call hB | exact (NC.alloc _).drew.call hB) : K.Kp w _ _ v1); (first | (have hz1 := (by with_reducible exact K.heap_keep hB (K.heap_top_drew v3 K.zz) : v1.heap[v3.heap.size]? = some K.zz); have M_z := NC.lt; obtain ⟨y0, y1, y2, y3⟩ := K.row_cells hz1) | skip); clear hB)))
      all_goals (go_wp2_with fail; go_meet; (first | exact ⟨_, rfl, N_1.new2 _ _ _⟩ | exact ⟨_, rfl, N_1.set2 M_z hz1 _ _⟩))
    case rest =>
      obtain ⟨g, rfl, N5⟩ := hcut
      have k0 := N5.at (b := g) (o := 0) (n := nl) (by simp)
      have k1 := N5.at (b := g) (o := 1) (n := nh) (by simp)
      go_wp2_with (first
        | (go_at_call 26; refine (HJ3.out _).mono ?_; rintro e v5 ⟨rfl, hB⟩; have N6 := N5.call hB; clear hB)
        | (go_at_call 19; refine (HL.out _).mono ?_; rintro e v6 ⟨rfl, hB⟩; have N7 := (by with_reducible (first | exact N6.call hB | exact N5.call hB) : K.Kp w _ _ v6); clear hB))
      go_ret
      exact ⟨rfl, N7.bel⟩
  · have hj : K.jud lo hi a1 a2 = 1 := if_pos g1
    have HJ1 : RowKit.Hid (∀ W, Calls Try.prog 26 #[K.iv lo hi, .int .i64 a1, .int .i64 a2] W fun e w' => e = .returned (.int .i64 1) ∧ RowKit.Below W.heap.size W w') := Lib.hid (fun W => by have h := HJ.out lo hi W; rwa [hj] at h)
    have HJ3 : RowKit.Hid (∀ W, Calls Try.prog 26 #[K.iv nl nh, .int .i64 a1, .int .i64 a2] W fun e w' => e = .returned (.int .i64 1) ∧ RowKit.Below W.heap.size W w') := Lib.hid (fun W => by have h := HJ.out nl nh W; rwa [show K.jud nl nh a1 a2 = 1 from if_pos (by omega)] at h)
    clear hj hnx ht hu
    go_enter Try.func12, Try.ntmps12
    go_upto_region 6 with (first
      | (go_at_call 14; refine (HI.out _).mono ?_; rintro e w1 ⟨rfl, hB⟩; have N1 := (N0.call hB).new2 lo hi 25; clear hB N0)
      | (go_at_call 26; with_reducible refine (HJ1.out _).mono ?_; rintro e w2 ⟨rfl, hB⟩; have N2 := N1.call hB; have i0 := N2.at (b := w1.heap.size) (o := 0) (n := lo) (by simp); have i1 := N2.at (b := w1.heap.size) (o := 1) (n := hi) (by simp); clear hB N1))
    have m0 : (w1.heap.size, 0, lo) ∈ ((w1.heap.size, 0, lo) :: (w1.heap.size, 1, hi) :: (K.csL w.heap.size x0 ++ []) : K.CL) := by simp
    have m1 : (w1.heap.size, 1, hi) ∈ ((w1.heap.size, 0, lo) :: (w1.heap.size, 1, hi) :: (K.csL w.heap.size x0 ++ []) : K.CL) := by simp
    have m3 : (w.heap.size, 3, x0.took) ∈ ((w1.heap.size, 0, lo) :: (w1.heap.size, 1, hi) :: (K.csL w.heap.size x0 ++ []) : K.CL) := by simp [K.csL]
    have m6 : (w.heap.size, 6, x0.drift) ∈ ((w1.heap.size, 0, lo) :: (w1.heap.size, 1, hi) :: (K.csL w.heap.size x0 ++ []) : K.CL) := by simp [K.csL]
    generalize ((w1.heap.size, 0, lo) :: (w1.heap.size, 1, hi) :: (K.csL w.heap.size x0 ++ []) : K.CL) = L at *
    generalize w1.heap.size = bt at *
    go_wp2_with fail
    have NA := N2.alloc (.cells #[.int .i64 lo, .int .i64 hi] 25)
    have NB := N2.alloc (.cells #[.int .i64 (lo + u), .int .i64 hi] 25)
    go_region_held3 (fun W => W.cell? ⟨bt, 0, none⟩ = some (.int .i64 lo) ∧ W.cell? ⟨bt, 1, none⟩ = some (.int .i64 hi)) (with_reducible (first | exact ⟨NA.drew.at m0, NA.drew.at m1⟩ | exact ⟨NB.drew.at m0, NB.drew.at m1⟩)) ((go_at_call 23; with_reducible refine (HU.out _ (by omega) _).mono ?_; rintro e w9 ⟨rfl, hw9⟩; rw [hw9]; clear hw9 w9))
    clear hw1 hw2 hw3
    go_upto_region 9 with fail
    have NC := NB.drew
    generalize (w2.alloc (.cells #[.int .i64 (lo + u), .int .i64 hi] 25)).drew = v3 at *
    go_cut [12] (fun sp wx => ∃ g : Nat, sp = .pointer (some ⟨g, 0, none⟩) ∧ K.Kp w wx.heap.size ((g, 0, nl) :: (g, 1, nh) :: L) wx)
    case first =>
      go_region_held3 (fun W => W.cell? ⟨bt, 0, none⟩ = some (.int .i64 lo) ∧ W.cell? ⟨bt, 1, none⟩ = some (.int .i64 hi) ∧ W.cell? ⟨w.heap.size, 3, none⟩ = some (.int .i64 x0.took) ∧ W.cell? ⟨w.heap.size, 6, none⟩ = some (.int .i64 x0.drift)) (with_reducible (first | exact ⟨(((N_1.setc M_z).setc M_z)).at m0, (((N_1.setc M_z).setc M_z)).at m1, (((N_1.setc M_z).setc M_z)).at m3, (((N_1.setc M_z).setc M_z)).at m6⟩ | exact ⟨((N_1.alloc _)).at m0, ((N_1.alloc _)).at m1, ((N_1.alloc _)).at m3, ((N_1.alloc _)).at m6⟩ | exact ⟨(N_1).at m0, (N_1).at m1, (N_1).at m3, (N_1).at m6⟩ | exact ⟨((NC.alloc _).drew).at m0, ((NC.alloc _).drew).at m1, ((NC.alloc _).drew).at m3, ((NC.alloc _).drew).at m6⟩ | exact ⟨(NC.drew).at m0, (NC.drew).at m1, (NC.drew).at m3, (NC.drew).at m6⟩))
        ((first
          | (go_at_call 16; with_reducible refine (HC.out _).mono ?_; rintro e w9 ⟨rfl, hw9⟩; rw [hw9]; clear hw9 w9)
          | (go_at_call 17; with_reducible refine (HD.out _).mono ?_; rintro e w9 ⟨rfl, hw9⟩; rw [hw9]; clear hw9 w9)
          | (go_at_call 15; with_reducible refine (HV.out _).mono ?_; rintro e v1 ⟨rfl, hB⟩; have N_1 := (by with_reducible (first | exact NC.drew.call hB | exact (NC.alloc _).drew.call hB) : K.Kp w _ _ v1); (first | (have hz1 := (by with_reducible exact K.heap_keep hB (K.heap_top_drew v3 K.zz) : v1.heap[v3.heap.size]? = some K.zz); have M_z := NC.lt; obtain ⟨y0, y1, y2, y3⟩ := K.row_cells hz1) | skip); clear hB)))
      all_goals (go_wp2_with fail; go_meet; (first | exact ⟨_, rfl, N_1.new2 _ _ _⟩ | exact ⟨_, rfl, N_1.set2 M_z hz1 _ _⟩))
    case rest =>
      obtain ⟨g, rfl, N5⟩ := hcut
      have k0 := N5.at (b := g) (o := 0) (n := nl) (by simp)
      have k1 := N5.at (b := g) (o := 1) (n := nh) (by simp)
      go_wp2_with (first
        | (go_at_call 26; refine (HJ3.out _).mono ?_; rintro e v5 ⟨rfl, hB⟩; have N6 := N5.call hB; clear hB)
        | (go_at_call 19; refine (HL.out _).mono ?_; rintro e v6 ⟨rfl, hB⟩; have N7 := (by with_reducible (first | exact N6.call hB | exact N5.call hB) : K.Kp w _ _ v6); clear hB))
      go_ret
      exact ⟨rfl, N7.bel⟩
  · have hj : K.jud lo hi a1 a2 = (-1) := by unfold K.jud; rw [if_neg g1, if_pos (by omega)]
    have HJ1 : RowKit.Hid (∀ W, Calls Try.prog 26 #[K.iv lo hi, .int .i64 a1, .int .i64 a2] W fun e w' => e = .returned (.int .i64 (-1)) ∧ RowKit.Below W.heap.size W w') := Lib.hid (fun W => by have h := HJ.out lo hi W; rwa [hj] at h)
    clear hj hnx ht hu
    go_enter Try.func12, Try.ntmps12
    go_upto_region 6 with (first
      | (go_at_call 14; refine (HI.out _).mono ?_; rintro e w1 ⟨rfl, hB⟩; have N1 := (N0.call hB).new2 lo hi 25; clear hB N0)
      | (go_at_call 26; with_reducible refine (HJ1.out _).mono ?_; rintro e w2 ⟨rfl, hB⟩; have N2 := N1.call hB; have i0 := N2.at (b := w1.heap.size) (o := 0) (n := lo) (by simp); have i1 := N2.at (b := w1.heap.size) (o := 1) (n := hi) (by simp); clear hB N1))
    have m0 : (w1.heap.size, 0, lo) ∈ ((w1.heap.size, 0, lo) :: (w1.heap.size, 1, hi) :: (K.csL w.heap.size x0 ++ []) : K.CL) := by simp
    have m1 : (w1.heap.size, 1, hi) ∈ ((w1.heap.size, 0, lo) :: (w1.heap.size, 1, hi) :: (K.csL w.heap.size x0 ++ []) : K.CL) := by simp
    have m3 : (w.heap.size, 3, x0.took) ∈ ((w1.heap.size, 0, lo) :: (w1.heap.size, 1, hi) :: (K.csL w.heap.size x0 ++ []) : K.CL) := by simp [K.csL]
    have m6 : (w.heap.size, 6, x0.drift) ∈ ((w1.heap.size, 0, lo) :: (w1.heap.size, 1, hi) :: (K.csL w.heap.size x0 ++ []) : K.CL) := by simp [K.csL]
    generalize ((w1.heap.size, 0, lo) :: (w1.heap.size, 1, hi) :: (K.csL w.heap.size x0 ++ []) : K.CL) = L at *
    generalize w1.heap.size = bt at *
    go_wp2_with fail
    have NA := N2.alloc (.cells #[.int .i64 lo, .int .i64 hi] 25)
    have NB := N2.alloc (.cells #[.int .i64 (lo + u), .int .i64 hi] 25)
    go_region_held3 (fun W => W.cell? ⟨bt, 0, none⟩ = some (.int .i64 lo) ∧ W.cell? ⟨bt, 1, none⟩ = some (.int .i64 hi)) (with_reducible (first | exact ⟨NA.drew.at m0, NA.drew.at m1⟩ | exact ⟨NB.drew.at m0, NB.drew.at m1⟩)) ((go_at_call 23; with_reducible refine (HU.out _ (by omega) _).mono ?_; rintro e w9 ⟨rfl, hw9⟩; rw [hw9]; clear hw9 w9))
    clear hw1 hw2 hw3
    go_upto_region 9 with fail
    have NC := NB.drew
    generalize (w2.alloc (.cells #[.int .i64 (lo + u), .int .i64 hi] 25)).drew = v3 at *
    go_cut [12] (fun sp wx => ∃ g : Nat, sp = .pointer (some ⟨g, 0, none⟩) ∧ K.Kp w wx.heap.size ((g, 0, nl) :: (g, 1, nh) :: L) wx)
    case first =>
      go_region_held3 (fun W => W.cell? ⟨bt, 0, none⟩ = some (.int .i64 lo) ∧ W.cell? ⟨bt, 1, none⟩ = some (.int .i64 hi) ∧ W.cell? ⟨w.heap.size, 3, none⟩ = some (.int .i64 x0.took) ∧ W.cell? ⟨w.heap.size, 6, none⟩ = some (.int .i64 x0.drift)) (with_reducible (first | exact ⟨(((N_1.setc M_z).setc M_z)).at m0, (((N_1.setc M_z).setc M_z)).at m1, (((N_1.setc M_z).setc M_z)).at m3, (((N_1.setc M_z).setc M_z)).at m6⟩ | exact ⟨((N_1.alloc _)).at m0, ((N_1.alloc _)).at m1, ((N_1.alloc _)).at m3, ((N_1.alloc _)).at m6⟩ | exact ⟨(N_1).at m0, (N_1).at m1, (N_1).at m3, (N_1).at m6⟩ | exact ⟨((NC.alloc _).drew).at m0, ((NC.alloc _).drew).at m1, ((NC.alloc _).drew).at m3, ((NC.alloc _).drew).at m6⟩ | exact ⟨(NC.drew).at m0, (NC.drew).at m1, (NC.drew).at m3, (NC.drew).at m6⟩))
        ((first
          | (go_at_call 16; with_reducible refine (HC.out _).mono ?_; rintro e w9 ⟨rfl, hw9⟩; rw [hw9]; clear hw9 w9)
          | (go_at_call 17; with_reducible refine (HD.out _).mono ?_; rintro e w9 ⟨rfl, hw9⟩; rw [hw9]; clear hw9 w9)
          | (go_at_call 15; with_reducible refine (HV.out _).mono ?_; rintro e v1 ⟨rfl, hB⟩; have N_1 := (by with_reducible (first | exact NC.drew.call hB | exact (NC.alloc _).drew.call hB) : K.Kp w _ _ v1); (first | (have hz1 := (by with_reducible exact K.heap_keep hB (K.heap_top_drew v3 K.zz) : v1.heap[v3.heap.size]? = some K.zz); have M_z := NC.lt; obtain ⟨y0, y1, y2, y3⟩ := K.row_cells hz1) | skip); clear hB)))
      all_goals (go_wp2_with fail; go_meet; (first | exact ⟨_, rfl, N_1.new2 _ _ _⟩ | exact ⟨_, rfl, N_1.set2 M_z hz1 _ _⟩))
    case rest =>
      obtain ⟨g, rfl, N5⟩ := hcut
      have k0 := N5.at (b := g) (o := 0) (n := nl) (by simp)
      have k1 := N5.at (b := g) (o := 1) (n := nh) (by simp)
      go_wp2_with (first
        | (go_at_call 26; refine (HJ3.out _).mono ?_; rintro e v5 ⟨rfl, hB⟩; have N6 := N5.call hB; clear hB)
        | (go_at_call 19; refine (HL.out _).mono ?_; rintro e v6 ⟨rfl, hB⟩; have N7 := (by with_reducible (first | exact N6.call hB | exact N5.call hB) : K.Kp w _ _ v6); clear hB))
      go_ret
      exact ⟨rfl, N7.bel⟩
  · have hj : K.jud lo hi a1 a2 = 0 := by unfold K.jud; rw [if_neg g1, if_neg (by omega)]
    have HJ1 : RowKit.Hid (∀ W, Calls Try.prog 26 #[K.iv lo hi, .int .i64 a1, .int .i64 a2] W fun e w' => e = .returned (.int .i64 0) ∧ RowKit.Below W.heap.size W w') := Lib.hid (fun W => by have h := HJ.out lo hi W; rwa [hj] at h)
    have HJ2 : RowKit.Hid (∀ W, Calls Try.prog 26 #[K.iv (lo + u) hi, .int .i64 a1, .int .i64 a2] W fun e w' => e = .returned (.int .i64 0) ∧ RowKit.Below W.heap.size W w') := Lib.hid (fun W => by have h := HJ.out (lo + u) hi W; rwa [show K.jud (lo + u) hi a1 a2 = 0 by unfold K.jud; rw [if_neg g1, if_neg (by omega)]] at h)
    clear hj hnx ht hu
    go_enter Try.func12, Try.ntmps12
    go_upto_region 6 with (first
      | (go_at_call 14; refine (HI.out _).mono ?_; rintro e w1 ⟨rfl, hB⟩; have N1 := (N0.call hB).new2 lo hi 25; clear hB N0)
      | (go_at_call 26; with_reducible refine (HJ1.out _).mono ?_; rintro e w2 ⟨rfl, hB⟩; have N2 := N1.call hB; have i0 := N2.at (b := w1.heap.size) (o := 0) (n := lo) (by simp); have i1 := N2.at (b := w1.heap.size) (o := 1) (n := hi) (by simp); clear hB N1))
    have m0 : (w1.heap.size, 0, lo) ∈ ((w1.heap.size, 0, lo) :: (w1.heap.size, 1, hi) :: (K.csL w.heap.size x0 ++ []) : K.CL) := by simp
    have m1 : (w1.heap.size, 1, hi) ∈ ((w1.heap.size, 0, lo) :: (w1.heap.size, 1, hi) :: (K.csL w.heap.size x0 ++ []) : K.CL) := by simp
    have m3 : (w.heap.size, 3, x0.took) ∈ ((w1.heap.size, 0, lo) :: (w1.heap.size, 1, hi) :: (K.csL w.heap.size x0 ++ []) : K.CL) := by simp [K.csL]
    have m6 : (w.heap.size, 6, x0.drift) ∈ ((w1.heap.size, 0, lo) :: (w1.heap.size, 1, hi) :: (K.csL w.heap.size x0 ++ []) : K.CL) := by simp [K.csL]
    generalize ((w1.heap.size, 0, lo) :: (w1.heap.size, 1, hi) :: (K.csL w.heap.size x0 ++ []) : K.CL) = L at *
    generalize w1.heap.size = bt at *
    go_wp2_with fail
    have NA := N2.alloc (.cells #[.int .i64 lo, .int .i64 hi] 25)
    have NB := N2.alloc (.cells #[.int .i64 (lo + u), .int .i64 hi] 25)
    go_region_held3 (fun W => W.cell? ⟨bt, 0, none⟩ = some (.int .i64 lo) ∧ W.cell? ⟨bt, 1, none⟩ = some (.int .i64 hi)) (with_reducible (first | exact ⟨NA.drew.at m0, NA.drew.at m1⟩ | exact ⟨NB.drew.at m0, NB.drew.at m1⟩)) ((go_at_call 23; with_reducible refine (HU.out _ (by omega) _).mono ?_; rintro e w9 ⟨rfl, hw9⟩; rw [hw9]; clear hw9 w9))
    clear hw1 hw2 hw3
    go_upto_region 9 with (go_at_call 26; refine (HJ2.out _).mono ?_; rintro e v3 ⟨rfl, hB⟩; have NC := NB.drew.call hB; clear hB NA NB)
    go_cut [12] (fun sp wx => ∃ g : Nat, sp = .pointer (some ⟨g, 0, none⟩) ∧ K.Kp w wx.heap.size ((g, 0, nl) :: (g, 1, nh) :: L) wx)
    case first =>
      go_region_held3 (fun W => W.cell? ⟨bt, 0, none⟩ = some (.int .i64 lo) ∧ W.cell? ⟨bt, 1, none⟩ = some (.int .i64 hi) ∧ W.cell? ⟨w.heap.size, 3, none⟩ = some (.int .i64 x0.took) ∧ W.cell? ⟨w.heap.size, 6, none⟩ = some (.int .i64 x0.drift)) (with_reducible (first | exact ⟨(((N_1.setc M_z).setc M_z)).at m0, (((N_1.setc M_z).setc M_z)).at m1, (((N_1.setc M_z).setc M_z)).at m3, (((N_1.setc M_z).setc M_z)).at m6⟩ | exact ⟨((N_1.alloc _)).at m0, ((N_1.alloc _)).at m1, ((N_1.alloc _)).at m3, ((N_1.alloc _)).at m6⟩ | exact ⟨(N_1).at m0, (N_1).at m1, (N_1).at m3, (N_1).at m6⟩ | exact ⟨((NC.alloc _).drew).at m0, ((NC.alloc _).drew).at m1, ((NC.alloc _).drew).at m3, ((NC.alloc _).drew).at m6⟩ | exact ⟨(NC.drew).at m0, (NC.drew).at m1, (NC.drew).at m3, (NC.drew).at m6⟩))
        ((first
          | (go_at_call 16; with_reducible refine (HC.out _).mono ?_; rintro e w9 ⟨rfl, hw9⟩; rw [hw9]; clear hw9 w9)
          | (go_at_call 17; with_reducible refine (HD.out _).mono ?_; rintro e w9 ⟨rfl, hw9⟩; rw [hw9]; clear hw9 w9)
          | (go_at_call 15; with_reducible refine (HV.out _).mono ?_; rintro e v1 ⟨rfl, hB⟩; have N_1 := (by with_reducible (first | exact NC.drew.call hB | exact (NC.alloc _).drew.call hB) : K.Kp w _ _ v1); (first | (have hz1 := (by with_reducible exact K.heap_keep hB (K.heap_top_drew v3 K.zz) : v1.heap[v3.heap.size]? = some K.zz); have M_z := NC.lt; obtain ⟨y0, y1, y2, y3⟩ := K.row_cells hz1) | skip); clear hB)))
      all_goals (go_wp2_with fail; go_meet; (first | exact ⟨_, rfl, N_1.new2 _ _ _⟩ | exact ⟨_, rfl, N_1.set2 M_z hz1 _ _⟩))
    case rest =>
      obtain ⟨g, rfl, N5⟩ := hcut
      have k0 := N5.at (b := g) (o := 0) (n := nl) (by simp)
      have k1 := N5.at (b := g) (o := 1) (n := nh) (by simp)
      go_wp2_with (first
        | (go_at_call 26; refine (HJ3.out _).mono ?_; rintro e v5 ⟨rfl, hB⟩; have N6 := N5.call hB; clear hB)
        | (go_at_call 19; refine (HL.out _).mono ?_; rintro e v6 ⟨rfl, hB⟩; have N7 := (by with_reducible (first | exact N6.call hB | exact N5.call hB) : K.Kp w _ _ v6); clear hB))
      go_ret
      exact ⟨rfl, N7.bel⟩

set_option maxRecDepth 100000 in
theorem lifted (os : Os) (started : os.Started) (H0 : Type) (enc : TypeId × Value → H0) :
    ReturnsInHanded {} Try.checked os 12 .any (Rows.clockWindowsSpec.pre6 enc Try.prog Try.f12 Rows.clockWindowsRow.domain false) (Rows.clockWindowsSpec.post enc Try.prog Try.f12 false true false false) := by
  refine returnsInHanded_of_change_sized (C := Try.checked) Go.Proofs.Ytlmbpbhdbgadjaa.O.own started (by kernel_rfl) Try.func12
    (ChangeSpec.witness6 (enc := enc) (C := Try.checked) false ⟨#[], #[.agg #[.int .i64 0, .int .i64 0, .int .i64 0, .int .i64 0, .int .i64 0, .int .i64 0, .int .i64 0], .int .i64 0, .int .i64 0, .int .i64 0], []⟩ 8 (by kernel_rfl) (by kernel_rfl) (by kernel_rfl) (by kernel_rfl)) ?_
  intro W base args ds gs before hval0 hW hcnd hsz0 _
  have hsz : (DataW.weightsEach Try.prog (Try.f12.params.toList ++ Rows.clockWindowsSpec.plain.varTypes Try.prog) (ds ++ gs)).all (· ≤ reachBytes) = true := hsz0
  clear hsz0
  have hval : ∀ (j : Nat) t v, Try.f12.params[j]? = some t → args[j]? = some v → Value.okWide Try.prog W .any base t v := hval0
  have hW' := hW
  obtain ⟨p, q, hA0, hV, rfl, hfz, hnd⟩ := hW
  have hA : DataW.TrodAll enc Try.prog W 0 (fun _ => true) true Try.f12.params.toList args.toList ds p := hA0
  rw [Try.params12] at hA hval hsz
  obtain ⟨v0, vs0, d0, ds0, p0, q0, hargs, rfl, rfl, h0, r0⟩ := trodAll_cons hA
  obtain ⟨v1, vs1, d1, ds1, p1, q1, rfl, rfl, rfl, h1, r1⟩ := trodAll_cons r0
  obtain ⟨v2, vs2, d2, ds2, p2, q2, rfl, rfl, rfl, h2, r2⟩ := trodAll_cons r1
  obtain ⟨v3, vs3, d3, ds3, p3, q3, rfl, rfl, rfl, h3, r3⟩ := trodAll_cons r2
  obtain ⟨rfl, rfl, rfl⟩ := trodAll_nil r3
  obtain rfl : args = #[v0, v1, v2, v3] := by cases args; simp_all
  obtain ⟨rfl, rfl⟩ := trodVars_none hV
  have k0 := h0
  have lt0 : ∀ x ∈ p0, x.block < W.heap.size := by obtain ⟨m, hm⟩ := k0; exact DataW.trod_lt m _ _ _ hm
  obtain ⟨x0, rfl, ok0⟩ := Go.Proofs.Ytlmbpbhdbgadjaa.K.open_Cs (hval 0 23 v0 rfl rfl) h0
  obtain ⟨a1, rfl, rfl, rfl, w1⟩ := open_int Try.underlying3 (hval 1 3 v1 rfl rfl) h1
  obtain ⟨a2, rfl, rfl, rfl, w2⟩ := open_int Try.underlying3 (hval 2 3 v2 rfl rfl) h2
  obtain ⟨a3, rfl, rfl, rfl, w3⟩ := open_int Try.underlying3 (hval 3 3 v3 rfl rfl) h3
  clear hA0 hval0
  refine (walk x0 a1 a2 a3 W ok0 w1 w2 w3).mono fun e W' ⟨he, bel⟩ => ?_
  subst he
  exact ⟨_, rfl, _, _, _, [], _, [], hW', trodAll_mk1 (shut_bool Try.underlying4 _), (trodAll_cons_mk (Below.trod Go.Proofs.Ytlmbpbhdbgadjaa.O.laidOut (by kernel_rfl) (of_decide_eq_true (by kernel_rfl)) k0 bel lt0) (trodAll_cons_mk (shut_int Try.underlying3 w1) (trodAll_cons_mk (shut_int Try.underlying3 w2) (trodAll_cons_mk (shut_int Try.underlying3 w3) trodAll_mk0)))), rfl, bel.frame _, fun h => by cases h⟩

/-- ████ THE STATEMENT ████ -/
theorem proved : Rows.ClockWindowsSaid :=
  OpenClaim.holds_of_wide 12 Try.f12 rfl rfl rfl rfl rfl rfl rfl ⟨rfl, rfl, rfl, rfl, rfl⟩ rfl rfl rfl rfl rfl (by kernel_rfl) Try.func12 (by kernel_rfl)
    (of_decide_eq_true (by kernel_rfl)) (by unfold Func.isWrapper; first | (rw [if_pos (by decide +kernel)]; kernel_rfl) | (rw [if_neg (by decide +kernel)]; exact ⟨rfl, rfl⟩))
    (fun os started H0 enc _ => lifted os started H0 enc)
end Go.Proofs.Ytlmbpbhdbgadjaa.clockWindows
