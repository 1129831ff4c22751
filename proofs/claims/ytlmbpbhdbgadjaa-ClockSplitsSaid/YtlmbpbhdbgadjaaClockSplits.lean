/-
  For all intervals, two numbers of counts and drifts, ClockSplits returns true: advancing in two steps yields an interval that contains that of a single step; and the chapter's examples hold.
-/
import Derived.Test.YtlmbpbhdbgadjaaKChk
import Derived.Test.YtlmbpbhdbgadjaaKMath2
import Derived.Deep.DeepCutAuto
import Derived.Deep.RegionHeld3
import Derived.Deep.LoopGhost
import Derived.Deep.QuietTactic
namespace Go.Proofs.Ytlmbpbhdbgadjaa.clockSplits
open Go.ChangeShapes Go.WideShapes Go.ChangeAt Go.RowKit
open Go.ChangeMaps (open_string shut_string)
set_option linter.unusedVariables false

set_option maxRecDepth 100000 in
set_option maxHeartbeats 4000000 in
theorem walk (x0 : K.Cs) (w : World) (ok0 : x0.Ok) :
    Calls Try.prog 10 #[x0.v] w fun e w' => e = .returned (.bool true) ∧ Below w.heap.size w w' := by
  have HL := Lib.hid (fun W => K.lives_any W)
  have HI := Lib.hid (fun W => K.interval_any x0 W ok0)
  have HA := Lib.hid (fun W => K.counted_any x0.took W ok0.2.2.2.1)
  have HS := Lib.hid (fun W => K.counted_any x0.since W ok0.2.2.2.2.1)
  have HD := Lib.hid (fun W => K.drift_any x0.drift W ok0.2.2.2.2.2.2)
  have N0 := (K.Kp.start w).newC x0 23
  have ht := K.t_bd x0.lo x0.wide
  have ha := K.cnt_bd x0.took
  have hb := K.cnt_bd x0.since
  have hd := K.drf_bd x0.drift
  generalize K.tlo x0.lo = lo at *
  generalize K.thi x0.lo x0.wide = hi at *
  generalize K.cnt x0.took = a at *
  generalize K.cnt x0.since = b at *
  generalize K.drf x0.drift = d at *
  have HV1 := Lib.hid (fun W => K.advance_any lo hi a d W ⟨by omega, by omega⟩ ⟨by omega, by omega⟩ ha.1 (by omega) hd.1 hd.2)
  have b1 := K.lim_bd (lo + a - K.cd a d)
  have b2 := K.lim_bd (hi + a + K.cd a d)
  have HV2 := Lib.hid (fun W => K.advance_any (K.alo lo a d) (K.ahi hi a d) b d W ⟨by unfold K.alo; omega, by unfold K.alo; omega⟩ ⟨by unfold K.ahi; omega, by unfold K.ahi; omega⟩ hb.1 (by omega) hd.1 hd.2)
  have HV3 := Lib.hid (fun W => K.advance_any lo hi (a + b) d W ⟨by omega, by omega⟩ ⟨by omega, by omega⟩ (by omega) (by omega) hd.1 hd.2)
  have hle := K.splits lo hi a b d ⟨ht.1, ht.2.1, ht.2.2⟩ ha.1 hb.1 hd.1
  generalize K.alo (K.alo lo a d) b d = l2 at *
  generalize K.ahi (K.ahi hi a d) b d = h2 at *
  generalize K.alo lo (a + b) d = l3 at *
  generalize K.ahi hi (a + b) d = h3 at *
  generalize K.alo lo a d = l1 at *
  generalize K.ahi hi a d = h1 at *
  have hw : IntKind.i64.wrap (a + b) = a + b := IntWalk.i64_in _ (by omega)
  obtain ⟨e1, e2, e3⟩ := hle
  clear ok0 ht ha hb hd b1 b2
  go_enter Try.func10, Try.ntmps10
  go_upto_region 4 with (first
    | (go_at_call 14; refine (HI.out _).mono ?_; rintro e w1 ⟨rfl, hB⟩; have N1 := (N0.call hB).new2 lo hi 25; have k3 := N1.at (b := w.heap.size) (o := 3) (n := x0.took) (by simp [K.csL]); have k4 := N1.at (b := w.heap.size) (o := 4) (n := x0.since) (by simp [K.csL]); clear hB N0)
    | (go_at_call 16; with_reducible refine (HA.out _).mono ?_; rintro e w2 ⟨rfl, rfl⟩)
    | (go_at_call 16; with_reducible refine (HS.out _).mono ?_; rintro e w2 ⟨rfl, rfl⟩))
  have m0 : (w1.heap.size, 0, lo) ∈ ((w1.heap.size, 0, lo) :: (w1.heap.size, 1, hi) :: (K.csL w.heap.size x0 ++ []) : K.CL) := by simp
  have m1 : (w1.heap.size, 1, hi) ∈ ((w1.heap.size, 0, lo) :: (w1.heap.size, 1, hi) :: (K.csL w.heap.size x0 ++ []) : K.CL) := by simp
  have m6 : (w.heap.size, 6, x0.drift) ∈ ((w1.heap.size, 0, lo) :: (w1.heap.size, 1, hi) :: (K.csL w.heap.size x0 ++ []) : K.CL) := by simp [K.csL]
  generalize ((w1.heap.size, 0, lo) :: (w1.heap.size, 1, hi) :: (K.csL w.heap.size x0 ++ []) : K.CL) = L at *
  generalize w1.alloc (.cells #[.int .i64 lo, .int .i64 hi] 25) = X at *
  generalize w1.heap.size = bt at *
  clear k3 k4
  go_cut [6] (fun s6 wx => ∃ g : Nat, s6 = .pointer (some ⟨g, 0, none⟩) ∧ K.Kp w wx.heap.size ((g, 0, l2) :: (g, 1, h2) :: L) wx)
  case first =>
    go_region_held3 (fun W => W.cell? ⟨bt, 0, none⟩ = some (.int .i64 lo) ∧ W.cell? ⟨bt, 1, none⟩ = some (.int .i64 hi) ∧ W.cell? ⟨w.heap.size, 6, none⟩ = some (.int .i64 x0.drift)) (with_reducible (first | exact ⟨(((N_2.setc M_z).setc M_z)).at m0, (((N_2.setc M_z).setc M_z)).at m1, (((N_2.setc M_z).setc M_z)).at m6⟩ | exact ⟨((N_2.alloc _)).at m0, ((N_2.alloc _)).at m1, ((N_2.alloc _)).at m6⟩ | exact ⟨(N_2).at m0, (N_2).at m1, (N_2).at m6⟩ | exact ⟨((N_1.alloc _)).at m0, ((N_1.alloc _)).at m1, ((N_1.alloc _)).at m6⟩ | exact ⟨(N_1).at m0, (N_1).at m1, (N_1).at m6⟩ | exact ⟨((N1.alloc _).drew).at m0, ((N1.alloc _).drew).at m1, ((N1.alloc _).drew).at m6⟩ | exact ⟨(N1.drew).at m0, (N1.drew).at m1, (N1.drew).at m6⟩))
      ((first
        | (go_at_call 17; with_reducible refine (HD.out _).mono ?_; rintro e w9 ⟨rfl, hw9⟩; rw [hw9]; clear hw9 w9)
        | (go_at_call 15; with_reducible refine (HV1.out _).mono ?_; rintro e v1 ⟨rfl, hB⟩; have N_1 := (by with_reducible (first | exact N1.drew.call hB | exact (N1.alloc _).drew.call hB) : K.Kp w _ _ v1); (first | (have hz1 := (by with_reducible exact K.heap_keep hB (K.heap_top_drew X K.zz) : v1.heap[X.heap.size]? = some K.zz); have M_z := N1.lt) | skip); clear hB)
        | (go_at_call 15; with_reducible refine (HV2.out _).mono ?_; rintro e v2 ⟨rfl, hB⟩; have N_2 := (by with_reducible (first | exact N_1.call hB | exact (N_1.alloc _).call hB) : K.Kp w _ _ v2); (first | (have hz2 := (by with_reducible exact K.heap_keep hB (K.heap_top v1 K.zz) : v2.heap[v1.heap.size]? = some K.zz); have M_z := N_1.lt; obtain ⟨y0, y1, y2, y3⟩ := K.row_cells hz2) | (have hz2 := K.heap_keep hB hz1; obtain ⟨y0, y1, y2, y3⟩ := K.row_cells hz2) | skip); clear hB)))
    all_goals (go_wp2_with fail; go_meet; (first | exact ⟨_, rfl, N_2.new2 _ _ _⟩ | exact ⟨_, rfl, N_2.set2 M_z hz2 _ _⟩))
  case rest =>
    obtain ⟨g, rfl, N2⟩ := hcut
    have m2 : (g, 0, l2) ∈ ((g, 0, l2) :: (g, 1, h2) :: L : K.CL) := by simp
    have m3 : (g, 1, h2) ∈ ((g, 0, l2) :: (g, 1, h2) :: L : K.CL) := by simp
    replace m0 := List.mem_cons_of_mem (g, 0, l2) (List.mem_cons_of_mem (g, 1, h2) m0)
    replace m1 := List.mem_cons_of_mem (g, 0, l2) (List.mem_cons_of_mem (g, 1, h2) m1)
    replace m6 := List.mem_cons_of_mem (g, 0, l2) (List.mem_cons_of_mem (g, 1, h2) m6)
    generalize ((g, 0, l2) :: (g, 1, h2) :: L : K.CL) = L2 at *
    clear N1
    go_upto_region 5 with fail
    go_cut [7] (fun s7 wx => ∃ f : Nat, s7 = .pointer (some ⟨f, 0, none⟩) ∧ K.Kp w wx.heap.size ((f, 0, l3) :: (f, 1, h3) :: L2) wx)
    case first =>
      go_region_held3 (fun W => W.cell? ⟨bt, 0, none⟩ = some (.int .i64 lo) ∧ W.cell? ⟨bt, 1, none⟩ = some (.int .i64 hi) ∧ W.cell? ⟨w.heap.size, 6, none⟩ = some (.int .i64 x0.drift)) (with_reducible (first | exact ⟨(((N_1.setc M_z).setc M_z)).at m0, (((N_1.setc M_z).setc M_z)).at m1, (((N_1.setc M_z).setc M_z)).at m6⟩ | exact ⟨((N_1.alloc _)).at m0, ((N_1.alloc _)).at m1, ((N_1.alloc _)).at m6⟩ | exact ⟨(N_1).at m0, (N_1).at m1, (N_1).at m6⟩ | exact ⟨((N2.alloc _).drew).at m0, ((N2.alloc _).drew).at m1, ((N2.alloc _).drew).at m6⟩ | exact ⟨(N2.drew).at m0, (N2.drew).at m1, (N2.drew).at m6⟩))
        ((first
          | (go_at_call 17; with_reducible refine (HD.out _).mono ?_; rintro e w9 ⟨rfl, hw9⟩; rw [hw9]; clear hw9 w9)
          | (go_at_call 15; with_reducible refine (HV3.out _).mono ?_; rintro e v1 ⟨rfl, hB⟩; have N_1 := (by with_reducible (first | exact N2.drew.call hB | exact (N2.alloc _).drew.call hB) : K.Kp w _ _ v1); (first | (have hz1 := (by with_reducible exact K.heap_keep hB (K.heap_top_drew wc K.zz) : v1.heap[wc.heap.size]? = some K.zz); have M_z := N2.lt; obtain ⟨y0, y1, y2, y3⟩ := K.row_cells hz1) | skip); clear hB)))
      all_goals (go_wp2_with fail; go_meet; (first | exact ⟨_, rfl, N_1.new2 _ _ _⟩ | exact ⟨_, rfl, N_1.set2 M_z hz1 _ _⟩))
    case rest =>
      obtain ⟨f, rfl, N3⟩ := hcut
      have k0 := N3.at (List.mem_cons_of_mem _ (List.mem_cons_of_mem _ m2))
      have k1 := N3.at (List.mem_cons_of_mem _ (List.mem_cons_of_mem _ m3))
      have k2 := N3.at (b := f) (o := 0) (n := l3) (by simp)
      have k3 := N3.at (b := f) (o := 1) (n := h3) (by simp)
      clear m0 m1 m2 m3 m6
      go_wp2_with (go_at_call 19; refine (HL.out _).mono ?_; rintro e w5 ⟨rfl, hB⟩; have N5 := N3.call hB; clear hB)
      go_ret
      exact ⟨rfl, N5.bel⟩

set_option maxRecDepth 100000 in
theorem lifted (os : Os) (started : os.Started) (H0 : Type) (enc : TypeId × Value → H0) :
    ReturnsInHanded {} Try.checked os 10 .any (Rows.clockSplitsSpec.pre6 enc Try.prog Try.f10 Rows.clockSplitsRow.domain false) (Rows.clockSplitsSpec.post enc Try.prog Try.f10 false true false false) := by
  refine returnsInHanded_of_change_sized (C := Try.checked) Go.Proofs.Ytlmbpbhdbgadjaa.O.own started (by kernel_rfl) Try.func10
    (ChangeSpec.witness6 (enc := enc) (C := Try.checked) false ⟨#[], #[.agg #[.int .i64 0, .int .i64 0, .int .i64 0, .int .i64 0, .int .i64 0, .int .i64 0, .int .i64 0]], []⟩ 8 (by kernel_rfl) (by kernel_rfl) (by kernel_rfl) (by kernel_rfl)) ?_
  intro W base args ds gs before hval0 hW hcnd hsz0 _
  have hsz : (DataW.weightsEach Try.prog (Try.f10.params.toList ++ Rows.clockSplitsSpec.plain.varTypes Try.prog) (ds ++ gs)).all (· ≤ reachBytes) = true := hsz0
  clear hsz0
  have hval : ∀ (j : Nat) t v, Try.f10.params[j]? = some t → args[j]? = some v → Value.okWide Try.prog W .any base t v := hval0
  have hW' := hW
  obtain ⟨p, q, hA0, hV, rfl, hfz, hnd⟩ := hW
  have hA : DataW.TrodAll enc Try.prog W 0 (fun _ => true) true Try.f10.params.toList args.toList ds p := hA0
  rw [Try.params10] at hA hval hsz
  obtain ⟨v0, vs0, d0, ds0, p0, q0, hargs, rfl, rfl, h0, r0⟩ := trodAll_cons hA
  obtain ⟨rfl, rfl, rfl⟩ := trodAll_nil r0
  obtain rfl : args = #[v0] := by cases args; simp_all
  obtain ⟨rfl, rfl⟩ := trodVars_none hV
  have k0 := h0
  have lt0 : ∀ x ∈ p0, x.block < W.heap.size := by obtain ⟨m, hm⟩ := k0; exact DataW.trod_lt m _ _ _ hm
  obtain ⟨x0, rfl, ok0⟩ := Go.Proofs.Ytlmbpbhdbgadjaa.K.open_Cs (hval 0 23 v0 rfl rfl) h0
  clear hA0 hval0
  refine (walk x0 W ok0).mono fun e W' ⟨he, bel⟩ => ?_
  subst he
  exact ⟨_, rfl, _, _, _, [], _, [], hW', trodAll_mk1 (shut_bool Try.underlying4 _), (trodAll_cons_mk (Below.trod Go.Proofs.Ytlmbpbhdbgadjaa.O.laidOut (by kernel_rfl) (of_decide_eq_true (by kernel_rfl)) k0 bel lt0) trodAll_mk0), rfl, bel.frame _, fun h => by cases h⟩

/-- ████ THE STATEMENT ████ -/
theorem proved : Rows.ClockSplitsSaid :=
  OpenClaim.holds_of_wide 10 Try.f10 rfl rfl rfl rfl rfl rfl rfl ⟨rfl, rfl, rfl, rfl, rfl⟩ rfl rfl rfl rfl rfl (by kernel_rfl) Try.func10 (by kernel_rfl)
    (of_decide_eq_true (by kernel_rfl)) (by unfold Func.isWrapper; first | (rw [if_pos (by decide +kernel)]; kernel_rfl) | (rw [if_neg (by decide +kernel)]; exact ⟨rfl, rfl⟩))
    (fun os started H0 enc _ => lifted os started H0 enc)
end Go.Proofs.Ytlmbpbhdbgadjaa.clockSplits
