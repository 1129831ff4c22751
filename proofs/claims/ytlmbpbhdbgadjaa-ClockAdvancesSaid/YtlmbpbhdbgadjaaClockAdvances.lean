/-
  For all intervals, counts and drifts, ClockAdvances returns true: Advance returns the specified interval; and the chapter's examples hold.
-/
import Derived.Test.YtlmbpbhdbgadjaaKLaw
import Derived.Deep.DeepCutAuto
import Derived.Deep.RegionHeld3
import Derived.Deep.LoopGhost
import Derived.Deep.QuietTactic
namespace Go.Proofs.Ytlmbpbhdbgadjaa.clockAdvances
open Go.ChangeShapes Go.WideShapes Go.ChangeAt Go.RowKit
open Go.ChangeMaps (open_string shut_string)
set_option linter.unusedVariables false

set_option maxRecDepth 100000 in
set_option maxHeartbeats 1000000 in
theorem walk (x0 : K.Cs) (w : World) (ok0 : x0.Ok) :
    Calls Try.prog 3 #[x0.v] w fun e w' => e = .returned (.bool true) ∧ Below w.heap.size w w' := by
  have HL := Lib.hid (fun W => K.lives_any W)
  have HI := Lib.hid (fun W => K.interval_any x0 W ok0)
  have HC := Lib.hid (fun W => K.counted_any x0.took W ok0.2.2.2.1)
  have HD := Lib.hid (fun W => K.drift_any x0.drift W ok0.2.2.2.2.2.2)
  have N0 := K.CB.start w x0 23
  have ht := K.t_bd x0.lo x0.wide
  have hc := K.cnt_bd x0.took
  have hd := K.drf_bd x0.drift
  generalize K.tlo x0.lo = lo at *
  generalize K.thi x0.lo x0.wide = hi at *
  generalize K.cnt x0.took = c at *
  generalize K.drf x0.drift = d at *
  have HV := Lib.hid (fun W => K.advance_any lo hi c d W ⟨by omega, by omega⟩ ⟨by omega, by omega⟩ hc.1 (by omega) hd.1 hd.2)
  have HR := Lib.hid (fun W => K.radvance_any lo hi c d W ⟨by omega, by omega⟩ ⟨by omega, by omega⟩ hc.1 (by omega) hd.1 hd.2)
  generalize K.alo lo c d = xl at *
  generalize K.ahi hi c d = xh at *
  clear ht hc hd ok0
  go_enter Try.func3, Try.ntmps3
  go_wp2_with (go_at_call 14; refine (HI.out _).mono ?_; rintro e w1 ⟨rfl, hB⟩; have N1 := (N0.call hB).alloc (.cells #[.int .i64 lo, .int .i64 hi] 25); have I1 := K.IB.new w1 lo hi 25; clear hB N0)
  go_region_held3 (fun W => W.cell? ⟨w.heap.size, 3, none⟩ = some (.int .i64 x0.took) ∧ W.cell? ⟨w.heap.size, 6, none⟩ = some (.int .i64 x0.drift) ∧ W.cell? ⟨w1.heap.size, 0, none⟩ = some (.int .i64 lo) ∧ W.cell? ⟨w1.heap.size, 1, none⟩ = some (.int .i64 hi)) (with_reducible (first | exact ⟨N5.c3, N5.c6, I5.c0, I5.c1⟩ | exact ⟨N4.c3, N4.c6, I4.c0, I4.c1⟩ | exact ⟨N3.c3, N3.c6, I3.c0, I3.c1⟩ | exact ⟨N1.drew.c3, N1.drew.c6, I1.drew.c0, I1.drew.c1⟩))
    ((first
      | (go_at_call 16; refine (HC.out _).mono ?_; rintro e w9 ⟨rfl, hw9⟩; rw [hw9]; clear hw9 w9)
      | (go_at_call 17; refine (HD.out _).mono ?_; rintro e w9 ⟨rfl, hw9⟩; rw [hw9]; clear hw9 w9)
      | (go_at_call 15; refine (HV.out _).mono ?_; rintro e w3 ⟨rfl, hB⟩; have N3 := N1.drew.call hB; have I3 := I1.drew.call hB; clear hB)
      | (go_at_call 18; refine (HR.out _).mono ?_; rintro e w4 ⟨rfl, hB⟩; have N4 := N3.call hB; have I4 := I3.call hB; clear hB)
      | (go_at_call 19; refine (HL.out _).mono ?_; rintro e w5 ⟨rfl, hB⟩; have N5 := N4.call hB; have I5 := I4.call hB; clear hB)))
  all_goals go_wp2_with fail
  all_goals go_ret
  all_goals exact ⟨rfl, N5.bel⟩

set_option maxRecDepth 100000 in
theorem lifted (os : Os) (started : os.Started) (H0 : Type) (enc : TypeId × Value → H0) :
    ReturnsInHanded {} Try.checked os 3 .any (Rows.clockAdvancesSpec.pre6 enc Try.prog Try.f3 Rows.clockAdvancesRow.domain false) (Rows.clockAdvancesSpec.post enc Try.prog Try.f3 false true false false) := by
  refine returnsInHanded_of_change_sized (C := Try.checked) Go.Proofs.Ytlmbpbhdbgadjaa.O.own started (by kernel_rfl) Try.func3
    (ChangeSpec.witness6 (enc := enc) (C := Try.checked) false ⟨#[], #[.agg #[.int .i64 0, .int .i64 0, .int .i64 0, .int .i64 0, .int .i64 0, .int .i64 0, .int .i64 0]], []⟩ 8 (by kernel_rfl) (by kernel_rfl) (by kernel_rfl) (by kernel_rfl)) ?_
  intro W base args ds gs before hval0 hW hcnd hsz0 _
  have hsz : (DataW.weightsEach Try.prog (Try.f3.params.toList ++ Rows.clockAdvancesSpec.plain.varTypes Try.prog) (ds ++ gs)).all (· ≤ reachBytes) = true := hsz0
  clear hsz0
  have hval : ∀ (j : Nat) t v, Try.f3.params[j]? = some t → args[j]? = some v → Value.okWide Try.prog W .any base t v := hval0
  have hW' := hW
  obtain ⟨p, q, hA0, hV, rfl, hfz, hnd⟩ := hW
  have hA : DataW.TrodAll enc Try.prog W 0 (fun _ => true) true Try.f3.params.toList args.toList ds p := hA0
  rw [Try.params3] at hA hval hsz
  obtain ⟨v0, vs0, d0, ds0, p0, q0, hargs, rfl, rfl, h0, r0⟩ := trodAll_cons hA
  obtain ⟨rfl, rfl, rfl⟩ := trodAll_nil r0
  obtain rfl : args = #[v0] := by cases args; simp_all
  obtain ⟨rfl, rfl⟩ := trodVars_none hV
  have k0 := h0
  have lt0 : ∀ x ∈ p0, x.block < W.heap.size := by obtain ⟨m, hm⟩ := k0; exact DataW.trod_lt m _ _ _ hm
  obtain ⟨x0, rfl, ok0⟩ := Go.Proofs.Ytlmbpbhdbgadjaa.K.open_Cs (hval 0 23 v0 rfl rfl) h0
  clear hA0 hval0
  refine (walk x0 W ok0).mono fun e W' ⟨he, bel⟩ => ?_
  subst he
  exact ⟨_, rfl, _, _, _, [], _, [], hW', trodAll_mk1 (shut_bool Try.underlying4 _), (trodAll_cons_mk (Below.trod Go.Proofs.Ytlmbpbhdbgadjaa.O.laidOut (by kernel_rfl) (of_decide_eq_true (by kernel_rfl)) k0 bel lt0) trodAll_mk0), rfl, bel.frame _, fun h => by cases h⟩

/-- ████ THE STATEMENT ████ -/
theorem proved : Rows.ClockAdvancesSaid :=
  OpenClaim.holds_of_wide 3 Try.f3 rfl rfl rfl rfl rfl rfl rfl ⟨rfl, rfl, rfl, rfl, rfl⟩ rfl rfl rfl rfl rfl (by kernel_rfl) Try.func3 (by kernel_rfl)
    (of_decide_eq_true (by kernel_rfl)) (by unfold Func.isWrapper; first | (rw [if_pos (by decide +kernel)]; kernel_rfl) | (rw [if_neg (by decide +kernel)]; exact ⟨rfl, rfl⟩))
    (fun os started H0 enc _ => lifted os started H0 enc)
end Go.Proofs.Ytlmbpbhdbgadjaa.clockAdvances
