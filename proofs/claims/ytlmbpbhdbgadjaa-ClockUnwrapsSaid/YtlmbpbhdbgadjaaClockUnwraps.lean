/-
  For all numbers, ClockUnwraps returns true: Unwrap returns the specified counter; of a counter less than 65536 counts ahead, that counter; and the chapter's examples hold.
-/
import Derived.Test.YtlmbpbhdbgadjaaKLaw
import Derived.Deep.DeepCutAuto
import Derived.Deep.RegionHeld3
import Derived.Deep.LoopGhost
import Derived.Deep.QuietTactic
namespace Go.Proofs.Ytlmbpbhdbgadjaa.clockUnwraps
open Go.ChangeShapes Go.WideShapes Go.ChangeAt Go.RowKit
open Go.ChangeMaps (open_string shut_string)
set_option linter.unusedVariables false

set_option maxRecDepth 100000 in
set_option maxHeartbeats 1000000 in
theorem walk (a0 : Int) (a1 : Int) (w : World) (w0 : (Lit.int .i64 a0).wf = true) (w1 : (Lit.int .i64 a1).wf = true) :
    Calls Try.prog 5 #[.int .i64 a0, .int .i64 a1] w fun e w' => e = .returned (.bool true) ∧ Below w.heap.size w w' := by
  have q0 := H.i64_range w0
  have q1 := H.i64_range w1
  have HL := Lib.hid (fun W => K.lives_any W)
  have HC := Lib.hid (fun W => K.counted_any a0 W q0)
  have hb := K.cnt_bd a0
  have HA := Lib.hid (fun W => H.around_any a1 65536 q1.1 q1.2 (by omega) (by omega) W)
  have hr := H.around_lt a1 (m := 65536) (by omega)
  generalize K.cnt a0 = n at *
  generalize H.around a1 65536 = r at *
  have HU := Lib.hid (fun W => K.unwrap_any n a1 W hb.1 (by omega) q1.1 q1.2)
  have HR := Lib.hid (fun W => K.runwrap_any n a1 W hb.1 (by omega) q1.1 q1.2)
  have HN : RowKit.Hid (∀ W, Calls Try.prog 24 #[.int .i64 n, .int .i64 ((n + r) % 65536)] W fun e w' => e = .returned (.int .i64 (n + r)) ∧ w' = W) :=
    Lib.hid (fun W => by
      have h := K.unwrap_any n ((n + r) % 65536) W hb.1 (by omega) (by omega) (by omega)
      rwa [show K.unw n ((n + r) % 65536) = n + r by unfold K.unw; omega] at h)
  have e1 : (n + r).tmod 65536 = (n + r) % 65536 := Int.tmod_eq_emod_of_nonneg (by omega)
  generalize K.unw n a1 = u at *
  clear w0 w1 q0 q1
  go_enter Try.func5, Try.ntmps5
  go_wp2_with (first
    | (go_at_call 16; refine (HC.out _).mono ?_; rintro e w2 ⟨rfl, rfl⟩)
    | (go_at_call 23; refine (HA.out _).mono ?_; rintro e w3 ⟨rfl, rfl⟩)
    | (go_at_call 25; refine (HR.out _).mono ?_; rintro e w4 ⟨rfl, rfl⟩)
    | (go_at_call 24; with_reducible refine (HU.out _).mono ?_; rintro e w5 ⟨rfl, rfl⟩)
    | (go_at_call 24; with_reducible refine (HN.out _).mono ?_; rintro e w6 ⟨rfl, rfl⟩)
    | (go_at_call 19; refine (HL.out _).mono ?_; rintro e w7 ⟨rfl, hB⟩; have HB := Lib.hid hB; clear hB))
  all_goals go_ret
  all_goals exact ⟨rfl, HB.out⟩

set_option maxRecDepth 100000 in
theorem lifted (os : Os) (started : os.Started) (H0 : Type) (enc : TypeId × Value → H0) :
    ReturnsInHanded {} Try.checked os 5 .any (Rows.clockUnwrapsSpec.pre6 enc Try.prog Try.f5 Rows.clockUnwrapsRow.domain false) (Rows.clockUnwrapsSpec.post enc Try.prog Try.f5 false true false false) := by
  refine returnsInHanded_of_change_sized (C := Try.checked) Go.Proofs.Ytlmbpbhdbgadjaa.O.own started (by kernel_rfl) Try.func5
    (ChangeSpec.witness6 (enc := enc) (C := Try.checked) false ⟨#[], #[.int .i64 0, .int .i64 0], []⟩ 8 (by kernel_rfl) (by kernel_rfl) (by kernel_rfl) (by kernel_rfl)) ?_
  intro W base args ds gs before hval0 hW hcnd hsz0 _
  have hsz : (DataW.weightsEach Try.prog (Try.f5.params.toList ++ Rows.clockUnwrapsSpec.plain.varTypes Try.prog) (ds ++ gs)).all (· ≤ reachBytes) = true := hsz0
  clear hsz0
  have hval : ∀ (j : Nat) t v, Try.f5.params[j]? = some t → args[j]? = some v → Value.okWide Try.prog W .any base t v := hval0
  have hW' := hW
  obtain ⟨p, q, hA0, hV, rfl, hfz, hnd⟩ := hW
  have hA : DataW.TrodAll enc Try.prog W 0 (fun _ => true) true Try.f5.params.toList args.toList ds p := hA0
  rw [Try.params5] at hA hval hsz
  obtain ⟨v0, vs0, d0, ds0, p0, q0, hargs, rfl, rfl, h0, r0⟩ := trodAll_cons hA
  obtain ⟨v1, vs1, d1, ds1, p1, q1, rfl, rfl, rfl, h1, r1⟩ := trodAll_cons r0
  obtain ⟨rfl, rfl, rfl⟩ := trodAll_nil r1
  obtain rfl : args = #[v0, v1] := by cases args; simp_all
  obtain ⟨rfl, rfl⟩ := trodVars_none hV
  obtain ⟨a0, rfl, rfl, rfl, w0⟩ := open_int Try.underlying3 (hval 0 3 v0 rfl rfl) h0
  obtain ⟨a1, rfl, rfl, rfl, w1⟩ := open_int Try.underlying3 (hval 1 3 v1 rfl rfl) h1
  clear hA0 hval0
  refine (walk a0 a1 W w0 w1).mono fun e W' ⟨he, bel⟩ => ?_
  subst he
  exact ⟨_, rfl, _, _, _, [], _, [], hW', trodAll_mk1 (shut_bool Try.underlying4 _), (trodAll_cons_mk (shut_int Try.underlying3 w0) (trodAll_cons_mk (shut_int Try.underlying3 w1) trodAll_mk0)), rfl, bel.frame _, fun h => by cases h⟩

/-- ████ THE STATEMENT ████ -/
theorem proved : Rows.ClockUnwrapsSaid :=
  OpenClaim.holds_of_wide 5 Try.f5 rfl rfl rfl rfl rfl rfl rfl ⟨rfl, rfl, rfl, rfl, rfl⟩ rfl rfl rfl rfl rfl (by kernel_rfl) Try.func5 (by kernel_rfl)
    (of_decide_eq_true (by kernel_rfl)) (by unfold Func.isWrapper; first | (rw [if_pos (by decide +kernel)]; kernel_rfl) | (rw [if_neg (by decide +kernel)]; exact ⟨rfl, rfl⟩))
    (fun os started H0 enc _ => lifted os started H0 enc)
end Go.Proofs.Ytlmbpbhdbgadjaa.clockUnwraps
