/-
  For all intervals, correlations, counters and drifts, ClockCorrelates returns true: Correlate returns the specified interval or error; and the chapter's examples hold.
-/
import Derived.Test.YtlmbpbhdbgadjaaKChk
import Derived.Test.YtlmbpbhdbgadjaaKKp3
import Derived.Test.YtlmbpbhdbgadjaaKMath2
import Derived.Deep.DeepCutAuto
import Derived.Deep.RegionHeld3
import Derived.Deep.LoopGhost
import Derived.Deep.QuietTactic
namespace Go.Proofs.Ytlmbpbhdbgadjaa.clockCorrelates
open Go.ChangeShapes Go.WideShapes Go.ChangeAt Go.RowKit
open Go.ChangeMaps (open_string shut_string)
set_option linter.unusedVariables false

set_option maxRecDepth 100000 in
set_option maxHeartbeats 4000000 in
theorem walk (x0 : K.Cs) (w : World) (ok0 : x0.Ok) :
    Calls Try.prog 4 #[x0.v] w fun e w' => e = .returned (.bool true) ∧ Below w.heap.size w w' := by
  have HL := Lib.hid (fun W => K.lives_any W)
  have HI := Lib.hid (fun W => K.interval_any x0 W ok0)
  have HSM := Lib.hid (fun W => K.sample_any x0 W ok0)
  have HN := Lib.hid (fun W => K.counted_any x0.since W ok0.2.2.2.2.1)
  have HD := Lib.hid (fun W => K.drift_any x0.drift W ok0.2.2.2.2.2.2)
  have N0 := (K.Kp.start w).newC x0 23
  have hs := x0.bd
  have hn := K.cnt_bd x0.since
  have hd := K.drf_bd x0.drift
  generalize K.tlo x0.lo = lo at *
  generalize K.thi x0.lo x0.wide = hi at *
  generalize x0.s = s at *
  generalize x0.r = r at *
  generalize x0.q = q at *
  generalize x0.now = now at *
  generalize K.cnt x0.since = c at *
  generalize K.drf x0.drift = d at *
  have HC1 := Lib.hid (fun W => K.correlate_any lo hi s r q now d W (by omega) hd.1 hd.2)
  have HR1 := Lib.hid (fun W => K.rcorrelate_any lo hi s r q now d W (by omega) hd.1 hd.2)
  have HC2 := Lib.hid (fun W => K.correlate_any lo hi x0.sent x0.took x0.tick c d W (by omega) hd.1 hd.2)
  have HR2 := Lib.hid (fun W => K.rcorrelate_any lo hi x0.sent x0.took x0.tick c d W (by omega) hd.1 hd.2)
  generalize K.cor lo hi s r q now d = R at *
  generalize K.cor lo hi x0.sent x0.took x0.tick c d = T at *
  obtain ⟨ra, rb, re⟩ := R
  obtain ⟨ta, tb, te⟩ := T
  dsimp only at HC1 HR1 HC2 HR2
  clear ok0 hs hn hd
  go_enter Try.func4, Try.ntmps4
  go_upto_region 4 with (first
    | (go_at_call 14; refine (HI.out _).mono ?_; rintro e w1 ⟨rfl, hB⟩; have N1 := (N0.call hB).new2 lo hi 25; obtain ⟨i0, i1, i2, i3, i4, i5, i6⟩ := N1.c7 (b := w.heap.size) K.mem2; clear hB)
    | (go_at_call 20; refine (HSM.out _).mono ?_; rintro e w2 ⟨rfl, hB⟩; have N2 := (N1.call hB).new3 s r q 32; obtain ⟨j0, j1, j2, j3, j4, j5, j6⟩ := N2.c7 (b := w.heap.size) K.mem5; clear hB i0 i1 i2 i3 i4 i5 i6))
  have N3 := N2.new3 x0.sent x0.took x0.tick 32
  rw [show (w2.alloc (.cells #[.int .i64 s, .int .i64 r, .int .i64 q] 32)).heap.size = w2.heap.size + 1 by simp] at N3
  obtain ⟨L, hL⟩ : ∃ L : K.CL, L = (w2.heap.size + 1, 0, x0.sent) :: (w2.heap.size + 1, 1, x0.took) :: (w2.heap.size + 1, 2, x0.tick) :: (w2.heap.size, 0, s) :: (w2.heap.size, 1, r) :: (w2.heap.size, 2, q) :: (w1.heap.size, 0, lo) :: (w1.heap.size, 1, hi) :: (K.csL w.heap.size x0 ++ []) := ⟨_, rfl⟩
  rw [← hL] at N3
  have ma0 : (w1.heap.size, 0, lo) ∈ L := by rw [hL]; simp
  have ma1 : (w1.heap.size, 1, hi) ∈ L := by rw [hL]; simp
  have mb0 : (w2.heap.size, 0, s) ∈ L := by rw [hL]; simp
  have mb1 : (w2.heap.size, 1, r) ∈ L := by rw [hL]; simp
  have mb2 : (w2.heap.size, 2, q) ∈ L := by rw [hL]; simp
  have mc0 : (w2.heap.size + 1, 0, x0.sent) ∈ L := by rw [hL]; simp
  have mc1 : (w2.heap.size + 1, 1, x0.took) ∈ L := by rw [hL]; simp
  have mc2 : (w2.heap.size + 1, 2, x0.tick) ∈ L := by rw [hL]; simp
  have m4 : (w.heap.size, 4, x0.since) ∈ L := by rw [hL]; simp [K.csL]
  have m6 : (w.heap.size, 6, x0.drift) ∈ L := by rw [hL]; simp [K.csL]
  clear hL N1 N2 j0 j1 j2 j3 j4 j5 j6
  generalize (w2.alloc (.cells #[.int .i64 s, .int .i64 r, .int .i64 q] 32)).alloc (.cells #[.int .i64 x0.sent, .int .i64 x0.took, .int .i64 x0.tick] 32) = X at *
  generalize w2.heap.size + 1 = bc at *
  generalize w2.heap.size = bb at *
  generalize w1.heap.size = ba at *
  go_cut [7, 8] (fun sp se wx => ∃ g : Nat, sp = .pointer (some ⟨g, 0, none⟩) ∧ se = .int .i64 re ∧ K.Kp w wx.heap.size ((g, 0, ra) :: (g, 1, rb) :: L) wx)
  case first =>
    go_region_held3 (fun W => W.cell? ⟨ba, 0, none⟩ = some (.int .i64 lo) ∧ W.cell? ⟨ba, 1, none⟩ = some (.int .i64 hi) ∧ W.cell? ⟨bb, 0, none⟩ = some (.int .i64 s) ∧ W.cell? ⟨bb, 1, none⟩ = some (.int .i64 r) ∧ W.cell? ⟨bb, 2, none⟩ = some (.int .i64 q) ∧ W.cell? ⟨w.heap.size, 6, none⟩ = some (.int .i64 x0.drift)) (with_reducible (first | exact ⟨(((N_1.setc M_z).setc M_z)).at ma0, (((N_1.setc M_z).setc M_z)).at ma1, (((N_1.setc M_z).setc M_z)).at mb0, (((N_1.setc M_z).setc M_z)).at mb1, (((N_1.setc M_z).setc M_z)).at mb2, (((N_1.setc M_z).setc M_z)).at m6⟩ | exact ⟨((N_1.alloc _)).at ma0, ((N_1.alloc _)).at ma1, ((N_1.alloc _)).at mb0, ((N_1.alloc _)).at mb1, ((N_1.alloc _)).at mb2, ((N_1.alloc _)).at m6⟩ | exact ⟨(N_1).at ma0, (N_1).at ma1, (N_1).at mb0, (N_1).at mb1, (N_1).at mb2, (N_1).at m6⟩ | exact ⟨((N3.alloc _).drew).at ma0, ((N3.alloc _).drew).at ma1, ((N3.alloc _).drew).at mb0, ((N3.alloc _).drew).at mb1, ((N3.alloc _).drew).at mb2, ((N3.alloc _).drew).at m6⟩ | exact ⟨(N3.drew).at ma0, (N3.drew).at ma1, (N3.drew).at mb0, (N3.drew).at mb1, (N3.drew).at mb2, (N3.drew).at m6⟩))
      ((first
        | (go_at_call 17; with_reducible refine (HD.out _).mono ?_; rintro e w9 ⟨rfl, hw9⟩; rw [hw9]; clear hw9 w9)
        | (go_at_call 21; with_reducible refine (HC1.out _).mono ?_; rintro e v1 ⟨rfl, hB⟩; have N_1 := (by with_reducible (first | exact N3.drew.call hB | exact (N3.alloc _).drew.call hB) : K.Kp w _ _ v1); (first | (have hz1 := (by with_reducible exact K.heap_keep hB (K.heap_top_drew X K.zz) : v1.heap[X.heap.size]? = some K.zz); have M_z := N3.lt; obtain ⟨y0, y1, y2, y3⟩ := K.row_cells hz1) | skip); clear hB)))
    all_goals (go_wp2_with fail; go_meet; (first | exact ⟨_, rfl, rfl, N_1.new2 _ _ _⟩ | exact ⟨_, rfl, rfl, N_1.set2 M_z hz1 _ _⟩))
  case rest =>
    obtain ⟨g0, rfl, rfl, M0⟩ := hcut
    clear N3
    replace ma0 := List.mem_cons_of_mem (g0, 0, ra) (List.mem_cons_of_mem (g0, 1, rb) ma0)
    replace ma1 := List.mem_cons_of_mem (g0, 0, ra) (List.mem_cons_of_mem (g0, 1, rb) ma1)
    replace mb0 := List.mem_cons_of_mem (g0, 0, ra) (List.mem_cons_of_mem (g0, 1, rb) mb0)
    replace mb1 := List.mem_cons_of_mem (g0, 0, ra) (List.mem_cons_of_mem (g0, 1, rb) mb1)
    replace mb2 := List.mem_cons_of_mem (g0, 0, ra) (List.mem_cons_of_mem (g0, 1, rb) mb2)
    replace mc0 := List.mem_cons_of_mem (g0, 0, ra) (List.mem_cons_of_mem (g0, 1, rb) mc0)
    replace mc1 := List.mem_cons_of_mem (g0, 0, ra) (List.mem_cons_of_mem (g0, 1, rb) mc1)
    replace mc2 := List.mem_cons_of_mem (g0, 0, ra) (List.mem_cons_of_mem (g0, 1, rb) mc2)
    replace m4 := List.mem_cons_of_mem (g0, 0, ra) (List.mem_cons_of_mem (g0, 1, rb) m4)
    replace m6 := List.mem_cons_of_mem (g0, 0, ra) (List.mem_cons_of_mem (g0, 1, rb) m6)
    have n00 : (g0, 0, ra) ∈ ((g0, 0, ra) :: (g0, 1, rb) :: L : K.CL) := by simp
    have n01 : (g0, 1, rb) ∈ ((g0, 0, ra) :: (g0, 1, rb) :: L : K.CL) := by simp
    generalize ((g0, 0, ra) :: (g0, 1, rb) :: L : K.CL) = L0 at *
    go_upto_region 5 with fail
    go_cut [9, 10] (fun sp se wx => ∃ g : Nat, sp = .pointer (some ⟨g, 0, none⟩) ∧ se = .int .i64 re ∧ K.Kp w wx.heap.size ((g, 0, ra) :: (g, 1, rb) :: L0) wx)
    case first =>
      go_region_held3 (fun W => W.cell? ⟨ba, 0, none⟩ = some (.int .i64 lo) ∧ W.cell? ⟨ba, 1, none⟩ = some (.int .i64 hi) ∧ W.cell? ⟨bb, 0, none⟩ = some (.int .i64 s) ∧ W.cell? ⟨bb, 1, none⟩ = some (.int .i64 r) ∧ W.cell? ⟨bb, 2, none⟩ = some (.int .i64 q) ∧ W.cell? ⟨w.heap.size, 6, none⟩ = some (.int .i64 x0.drift)) (with_reducible (first | exact ⟨(((N_1.setc M_z).setc M_z)).at ma0, (((N_1.setc M_z).setc M_z)).at ma1, (((N_1.setc M_z).setc M_z)).at mb0, (((N_1.setc M_z).setc M_z)).at mb1, (((N_1.setc M_z).setc M_z)).at mb2, (((N_1.setc M_z).setc M_z)).at m6⟩ | exact ⟨((N_1.alloc _)).at ma0, ((N_1.alloc _)).at ma1, ((N_1.alloc _)).at mb0, ((N_1.alloc _)).at mb1, ((N_1.alloc _)).at mb2, ((N_1.alloc _)).at m6⟩ | exact ⟨(N_1).at ma0, (N_1).at ma1, (N_1).at mb0, (N_1).at mb1, (N_1).at mb2, (N_1).at m6⟩ | exact ⟨((M0.alloc _).drew).at ma0, ((M0.alloc _).drew).at ma1, ((M0.alloc _).drew).at mb0, ((M0.alloc _).drew).at mb1, ((M0.alloc _).drew).at mb2, ((M0.alloc _).drew).at m6⟩ | exact ⟨(M0.drew).at ma0, (M0.drew).at ma1, (M0.drew).at mb0, (M0.drew).at mb1, (M0.drew).at mb2, (M0.drew).at m6⟩))
        ((first
          | (go_at_call 17; with_reducible refine (HD.out _).mono ?_; rintro e w9 ⟨rfl, hw9⟩; rw [hw9]; clear hw9 w9)
          | (go_at_call 22; with_reducible refine (HR1.out _).mono ?_; rintro e v1 ⟨rfl, hB⟩; have N_1 := (by with_reducible (first | exact M0.drew.call hB | exact (M0.alloc _).drew.call hB) : K.Kp w _ _ v1); (first | (have hz1 := (by with_reducible exact K.heap_keep hB (K.heap_top_drew wc K.zz) : v1.heap[wc.heap.size]? = some K.zz); have M_z := M0.lt; obtain ⟨y0, y1, y2, y3⟩ := K.row_cells hz1) | skip); clear hB)))
      all_goals (go_wp2_with fail; go_meet; (first | exact ⟨_, rfl, rfl, N_1.new2 _ _ _⟩ | exact ⟨_, rfl, rfl, N_1.set2 M_z hz1 _ _⟩))
    case rest =>
      obtain ⟨g1, rfl, rfl, M1⟩ := hcut
      clear M0
      replace ma0 := List.mem_cons_of_mem (g1, 0, ra) (List.mem_cons_of_mem (g1, 1, rb) ma0)
      replace ma1 := List.mem_cons_of_mem (g1, 0, ra) (List.mem_cons_of_mem (g1, 1, rb) ma1)
      replace mb0 := List.mem_cons_of_mem (g1, 0, ra) (List.mem_cons_of_mem (g1, 1, rb) mb0)
      replace mb1 := List.mem_cons_of_mem (g1, 0, ra) (List.mem_cons_of_mem (g1, 1, rb) mb1)
      replace mb2 := List.mem_cons_of_mem (g1, 0, ra) (List.mem_cons_of_mem (g1, 1, rb) mb2)
      replace mc0 := List.mem_cons_of_mem (g1, 0, ra) (List.mem_cons_of_mem (g1, 1, rb) mc0)
      replace mc1 := List.mem_cons_of_mem (g1, 0, ra) (List.mem_cons_of_mem (g1, 1, rb) mc1)
      replace mc2 := List.mem_cons_of_mem (g1, 0, ra) (List.mem_cons_of_mem (g1, 1, rb) mc2)
      replace m4 := List.mem_cons_of_mem (g1, 0, ra) (List.mem_cons_of_mem (g1, 1, rb) m4)
      replace m6 := List.mem_cons_of_mem (g1, 0, ra) (List.mem_cons_of_mem (g1, 1, rb) m6)
      replace n00 := List.mem_cons_of_mem (g1, 0, ra) (List.mem_cons_of_mem (g1, 1, rb) n00)
      replace n01 := List.mem_cons_of_mem (g1, 0, ra) (List.mem_cons_of_mem (g1, 1, rb) n01)
      have n10 : (g1, 0, ra) ∈ ((g1, 0, ra) :: (g1, 1, rb) :: L0 : K.CL) := by simp
      have n11 : (g1, 1, rb) ∈ ((g1, 0, ra) :: (g1, 1, rb) :: L0 : K.CL) := by simp
      generalize ((g1, 0, ra) :: (g1, 1, rb) :: L0 : K.CL) = L1 at *
      go_upto_region 6 with fail
      go_cut [11, 12] (fun sp se wx => ∃ g : Nat, sp = .pointer (some ⟨g, 0, none⟩) ∧ se = .int .i64 te ∧ K.Kp w wx.heap.size ((g, 0, ta) :: (g, 1, tb) :: L1) wx)
      case first =>
        go_region_held3 (fun W => W.cell? ⟨ba, 0, none⟩ = some (.int .i64 lo) ∧ W.cell? ⟨ba, 1, none⟩ = some (.int .i64 hi) ∧ W.cell? ⟨bc, 0, none⟩ = some (.int .i64 x0.sent) ∧ W.cell? ⟨bc, 1, none⟩ = some (.int .i64 x0.took) ∧ W.cell? ⟨bc, 2, none⟩ = some (.int .i64 x0.tick) ∧ W.cell? ⟨w.heap.size, 4, none⟩ = some (.int .i64 x0.since) ∧ W.cell? ⟨w.heap.size, 6, none⟩ = some (.int .i64 x0.drift)) (with_reducible (first | exact ⟨(((N_1.setc M_z).setc M_z)).at ma0, (((N_1.setc M_z).setc M_z)).at ma1, (((N_1.setc M_z).setc M_z)).at mc0, (((N_1.setc M_z).setc M_z)).at mc1, (((N_1.setc M_z).setc M_z)).at mc2, (((N_1.setc M_z).setc M_z)).at m4, (((N_1.setc M_z).setc M_z)).at m6⟩ | exact ⟨((N_1.alloc _)).at ma0, ((N_1.alloc _)).at ma1, ((N_1.alloc _)).at mc0, ((N_1.alloc _)).at mc1, ((N_1.alloc _)).at mc2, ((N_1.alloc _)).at m4, ((N_1.alloc _)).at m6⟩ | exact ⟨(N_1).at ma0, (N_1).at ma1, (N_1).at mc0, (N_1).at mc1, (N_1).at mc2, (N_1).at m4, (N_1).at m6⟩ | exact ⟨((M1.alloc _).drew).at ma0, ((M1.alloc _).drew).at ma1, ((M1.alloc _).drew).at mc0, ((M1.alloc _).drew).at mc1, ((M1.alloc _).drew).at mc2, ((M1.alloc _).drew).at m4, ((M1.alloc _).drew).at m6⟩ | exact ⟨(M1.drew).at ma0, (M1.drew).at ma1, (M1.drew).at mc0, (M1.drew).at mc1, (M1.drew).at mc2, (M1.drew).at m4, (M1.drew).at m6⟩))
          ((first
            | (go_at_call 16; with_reducible refine (HN.out _).mono ?_; rintro e w9 ⟨rfl, hw9⟩; rw [hw9]; clear hw9 w9)
            | (go_at_call 17; with_reducible refine (HD.out _).mono ?_; rintro e w9 ⟨rfl, hw9⟩; rw [hw9]; clear hw9 w9)
            | (go_at_call 21; with_reducible refine (HC2.out _).mono ?_; rintro e v1 ⟨rfl, hB⟩; have N_1 := (by with_reducible (first | exact M1.drew.call hB | exact (M1.alloc _).drew.call hB) : K.Kp w _ _ v1); (first | (have hz1 := (by with_reducible exact K.heap_keep hB (K.heap_top_drew wc K.zz) : v1.heap[wc.heap.size]? = some K.zz); have M_z := M1.lt; obtain ⟨y0, y1, y2, y3⟩ := K.row_cells hz1) | skip); clear hB)))
        all_goals (go_wp2_with fail; go_meet; (first | exact ⟨_, rfl, rfl, N_1.new2 _ _ _⟩ | exact ⟨_, rfl, rfl, N_1.set2 M_z hz1 _ _⟩))
      case rest =>
        obtain ⟨g2, rfl, rfl, M2⟩ := hcut
        clear M1
        replace ma0 := List.mem_cons_of_mem (g2, 0, ta) (List.mem_cons_of_mem (g2, 1, tb) ma0)
        replace ma1 := List.mem_cons_of_mem (g2, 0, ta) (List.mem_cons_of_mem (g2, 1, tb) ma1)
        replace mb0 := List.mem_cons_of_mem (g2, 0, ta) (List.mem_cons_of_mem (g2, 1, tb) mb0)
        replace mb1 := List.mem_cons_of_mem (g2, 0, ta) (List.mem_cons_of_mem (g2, 1, tb) mb1)
        replace mb2 := List.mem_cons_of_mem (g2, 0, ta) (List.mem_cons_of_mem (g2, 1, tb) mb2)
        replace mc0 := List.mem_cons_of_mem (g2, 0, ta) (List.mem_cons_of_mem (g2, 1, tb) mc0)
        replace mc1 := List.mem_cons_of_mem (g2, 0, ta) (List.mem_cons_of_mem (g2, 1, tb) mc1)
        replace mc2 := List.mem_cons_of_mem (g2, 0, ta) (List.mem_cons_of_mem (g2, 1, tb) mc2)
        replace m4 := List.mem_cons_of_mem (g2, 0, ta) (List.mem_cons_of_mem (g2, 1, tb) m4)
        replace m6 := List.mem_cons_of_mem (g2, 0, ta) (List.mem_cons_of_mem (g2, 1, tb) m6)
        replace n00 := List.mem_cons_of_mem (g2, 0, ta) (List.mem_cons_of_mem (g2, 1, tb) n00)
        replace n01 := List.mem_cons_of_mem (g2, 0, ta) (List.mem_cons_of_mem (g2, 1, tb) n01)
        replace n10 := List.mem_cons_of_mem (g2, 0, ta) (List.mem_cons_of_mem (g2, 1, tb) n10)
        replace n11 := List.mem_cons_of_mem (g2, 0, ta) (List.mem_cons_of_mem (g2, 1, tb) n11)
        have n20 : (g2, 0, ta) ∈ ((g2, 0, ta) :: (g2, 1, tb) :: L1 : K.CL) := by simp
        have n21 : (g2, 1, tb) ∈ ((g2, 0, ta) :: (g2, 1, tb) :: L1 : K.CL) := by simp
        generalize ((g2, 0, ta) :: (g2, 1, tb) :: L1 : K.CL) = L2 at *
        go_upto_region 7 with fail
        go_cut [13, 14] (fun sp se wx => ∃ g : Nat, sp = .pointer (some ⟨g, 0, none⟩) ∧ se = .int .i64 te ∧ K.Kp w wx.heap.size ((g, 0, ta) :: (g, 1, tb) :: L2) wx)
        case first =>
          go_region_held3 (fun W => W.cell? ⟨ba, 0, none⟩ = some (.int .i64 lo) ∧ W.cell? ⟨ba, 1, none⟩ = some (.int .i64 hi) ∧ W.cell? ⟨bc, 0, none⟩ = some (.int .i64 x0.sent) ∧ W.cell? ⟨bc, 1, none⟩ = some (.int .i64 x0.took) ∧ W.cell? ⟨bc, 2, none⟩ = some (.int .i64 x0.tick) ∧ W.cell? ⟨w.heap.size, 4, none⟩ = some (.int .i64 x0.since) ∧ W.cell? ⟨w.heap.size, 6, none⟩ = some (.int .i64 x0.drift)) (with_reducible (first | exact ⟨(((N_1.setc M_z).setc M_z)).at ma0, (((N_1.setc M_z).setc M_z)).at ma1, (((N_1.setc M_z).setc M_z)).at mc0, (((N_1.setc M_z).setc M_z)).at mc1, (((N_1.setc M_z).setc M_z)).at mc2, (((N_1.setc M_z).setc M_z)).at m4, (((N_1.setc M_z).setc M_z)).at m6⟩ | exact ⟨((N_1.alloc _)).at ma0, ((N_1.alloc _)).at ma1, ((N_1.alloc _)).at mc0, ((N_1.alloc _)).at mc1, ((N_1.alloc _)).at mc2, ((N_1.alloc _)).at m4, ((N_1.alloc _)).at m6⟩ | exact ⟨(N_1).at ma0, (N_1).at ma1, (N_1).at mc0, (N_1).at mc1, (N_1).at mc2, (N_1).at m4, (N_1).at m6⟩ | exact ⟨((M2.alloc _).drew).at ma0, ((M2.alloc _).drew).at ma1, ((M2.alloc _).drew).at mc0, ((M2.alloc _).drew).at mc1, ((M2.alloc _).drew).at mc2, ((M2.alloc _).drew).at m4, ((M2.alloc _).drew).at m6⟩ | exact ⟨(M2.drew).at ma0, (M2.drew).at ma1, (M2.drew).at mc0, (M2.drew).at mc1, (M2.drew).at mc2, (M2.drew).at m4, (M2.drew).at m6⟩))
            ((first
              | (go_at_call 16; with_reducible refine (HN.out _).mono ?_; rintro e w9 ⟨rfl, hw9⟩; rw [hw9]; clear hw9 w9)
              | (go_at_call 17; with_reducible refine (HD.out _).mono ?_; rintro e w9 ⟨rfl, hw9⟩; rw [hw9]; clear hw9 w9)
              | (go_at_call 22; with_reducible refine (HR2.out _).mono ?_; rintro e v1 ⟨rfl, hB⟩; have N_1 := (by with_reducible (first | exact M2.drew.call hB | exact (M2.alloc _).drew.call hB) : K.Kp w _ _ v1); (first | (have hz1 := (by with_reducible exact K.heap_keep hB (K.heap_top_drew wc K.zz) : v1.heap[wc.heap.size]? = some K.zz); have M_z := M2.lt; obtain ⟨y0, y1, y2, y3⟩ := K.row_cells hz1) | skip); clear hB)))
          all_goals (go_wp2_with fail; go_meet; (first | exact ⟨_, rfl, rfl, N_1.new2 _ _ _⟩ | exact ⟨_, rfl, rfl, N_1.set2 M_z hz1 _ _⟩))
        case rest =>
          obtain ⟨g3, rfl, rfl, M3⟩ := hcut
          clear M2
          replace ma0 := List.mem_cons_of_mem (g3, 0, ta) (List.mem_cons_of_mem (g3, 1, tb) ma0)
          replace ma1 := List.mem_cons_of_mem (g3, 0, ta) (List.mem_cons_of_mem (g3, 1, tb) ma1)
          replace mb0 := List.mem_cons_of_mem (g3, 0, ta) (List.mem_cons_of_mem (g3, 1, tb) mb0)
          replace mb1 := List.mem_cons_of_mem (g3, 0, ta) (List.mem_cons_of_mem (g3, 1, tb) mb1)
          replace mb2 := List.mem_cons_of_mem (g3, 0, ta) (List.mem_cons_of_mem (g3, 1, tb) mb2)
          replace mc0 := List.mem_cons_of_mem (g3, 0, ta) (List.mem_cons_of_mem (g3, 1, tb) mc0)
          replace mc1 := List.mem_cons_of_mem (g3, 0, ta) (List.mem_cons_of_mem (g3, 1, tb) mc1)
          replace mc2 := List.mem_cons_of_mem (g3, 0, ta) (List.mem_cons_of_mem (g3, 1, tb) mc2)
          replace m4 := List.mem_cons_of_mem (g3, 0, ta) (List.mem_cons_of_mem (g3, 1, tb) m4)
          replace m6 := List.mem_cons_of_mem (g3, 0, ta) (List.mem_cons_of_mem (g3, 1, tb) m6)
          replace n00 := List.mem_cons_of_mem (g3, 0, ta) (List.mem_cons_of_mem (g3, 1, tb) n00)
          replace n01 := List.mem_cons_of_mem (g3, 0, ta) (List.mem_cons_of_mem (g3, 1, tb) n01)
          replace n10 := List.mem_cons_of_mem (g3, 0, ta) (List.mem_cons_of_mem (g3, 1, tb) n10)
          replace n11 := List.mem_cons_of_mem (g3, 0, ta) (List.mem_cons_of_mem (g3, 1, tb) n11)
          replace n20 := List.mem_cons_of_mem (g3, 0, ta) (List.mem_cons_of_mem (g3, 1, tb) n20)
          replace n21 := List.mem_cons_of_mem (g3, 0, ta) (List.mem_cons_of_mem (g3, 1, tb) n21)
          have n30 : (g3, 0, ta) ∈ ((g3, 0, ta) :: (g3, 1, tb) :: L2 : K.CL) := by simp
          have n31 : (g3, 1, tb) ∈ ((g3, 0, ta) :: (g3, 1, tb) :: L2 : K.CL) := by simp
          generalize ((g3, 0, ta) :: (g3, 1, tb) :: L2 : K.CL) = L3 at *
          have z00 := M3.at n00
          have z01 := M3.at n01
          have z10 := M3.at n10
          have z11 := M3.at n11
          have z20 := M3.at n20
          have z21 := M3.at n21
          have z30 := M3.at n30
          have z31 := M3.at n31
          clear ma0 ma1 mb0 mb1 mb2 mc0 mc1 mc2 m4 m6 n00 n01 n10 n11 n20 n21 n30 n31
          go_wp2_with (go_at_call 19; refine (HL.out _).mono ?_; rintro e w5 ⟨rfl, hB⟩; have N5 := M3.call hB; clear hB)
          go_ret
          exact ⟨rfl, N5.bel⟩

set_option maxRecDepth 100000 in
theorem lifted (os : Os) (started : os.Started) (H0 : Type) (enc : TypeId × Value → H0) :
    ReturnsInHanded {} Try.checked os 4 .any (Rows.clockCorrelatesSpec.pre6 enc Try.prog Try.f4 Rows.clockCorrelatesRow.domain false) (Rows.clockCorrelatesSpec.post enc Try.prog Try.f4 false true false false) := by
  refine returnsInHanded_of_change_sized (C := Try.checked) Go.Proofs.Ytlmbpbhdbgadjaa.O.own started (by kernel_rfl) Try.func4
    (ChangeSpec.witness6 (enc := enc) (C := Try.checked) false ⟨#[], #[.agg #[.int .i64 0, .int .i64 0, .int .i64 0, .int .i64 0, .int .i64 0, .int .i64 0, .int .i64 0]], []⟩ 8 (by kernel_rfl) (by kernel_rfl) (by kernel_rfl) (by kernel_rfl)) ?_
  intro W base args ds gs before hval0 hW hcnd hsz0 _
  have hsz : (DataW.weightsEach Try.prog (Try.f4.params.toList ++ Rows.clockCorrelatesSpec.plain.varTypes Try.prog) (ds ++ gs)).all (· ≤ reachBytes) = true := hsz0
  clear hsz0
  have hval : ∀ (j : Nat) t v, Try.f4.params[j]? = some t → args[j]? = some v → Value.okWide Try.prog W .any base t v := hval0
  have hW' := hW
  obtain ⟨p, q, hA0, hV, rfl, hfz, hnd⟩ := hW
  have hA : DataW.TrodAll enc Try.prog W 0 (fun _ => true) true Try.f4.params.toList args.toList ds p := hA0
  rw [Try.params4] at hA hval hsz
  obtain ⟨v0, vs0, d0, ds0, p0, q0, hargs, rfl, rfl, h0, r0⟩ := trodAll_cons hA
  obtain ⟨rfl, rfl, rfl⟩ := trodAll_nil r0
  obtain rfl : args = #[v0] := by cases args; simp_all
  obtain ⟨rfl, rfl⟩ := trodVars_none hV
  have k0 := h0
  have lt0 : ∀ x ∈ p0, x.block < W.heap.size := by obtain ⟨m, hm⟩ := k0; exact DataW.trod_lt m _ _ _ hm
  obtain ⟨x0, rfl, ok0⟩ := Go.Proofs.Ytlmbpbhdbgadjaa.K.open_Cs (hval 0 23 v0 rfl rfl) h0
  clear hA0 hval0
  refine (walk x0 W ok0).mono fun e W' ⟨he, bel⟩ => ?_
  subst he
  exact ⟨_, rfl, _, _, _, [], _, [], hW', trodAll_mk1 (shut_bool Try.underlying4 _), (trodAll_cons_mk (Below.trod Go.Proofs.Ytlmbpbhdbgadjaa.O.laidOut (by kernel_rfl) (of_decide_eq_true (by kernel_rfl)) k0 bel lt0) trodAll_mk0), rfl, bel.frame _, fun h => by cases h⟩

/-- ████ THE STATEMENT ████ -/
theorem proved : Rows.ClockCorrelatesSaid :=
  OpenClaim.holds_of_wide 4 Try.f4 rfl rfl rfl rfl rfl rfl rfl ⟨rfl, rfl, rfl, rfl, rfl⟩ rfl rfl rfl rfl rfl (by kernel_rfl) Try.func4 (by kernel_rfl)
    (of_decide_eq_true (by kernel_rfl)) (by unfold Func.isWrapper; first | (rw [if_pos (by decide +kernel)]; kernel_rfl) | (rw [if_neg (by decide +kernel)]; exact ⟨rfl, rfl⟩))
    (fun os started H0 enc _ => lifted os started H0 enc)
end Go.Proofs.Ytlmbpbhdbgadjaa.clockCorrelates
