/-
  HashLadder (P1.6): for every two keys and number of up to 200 steps, the keys after that many steps are equal exactly if the first keys are, and the chapter's examples hold; for every input, without a condition.
-/
import Derived.Test.YtcgppbbpdnobfaaHAround
namespace Go.Proofs.Ytcgppbbpdnobfaa.hashLadder
open Go.ChangeShapes Go.WideShapes Go.ChangeAt Go.RowKit
open Go.ChangeMaps (open_string shut_string)
set_option linter.unusedVariables false
theorem u64_range {a : Int} (h : (Lit.int .u64 a).wf = true) : 0 ≤ a ∧ a < 18446744073709551616 := by
  simp [Lit.wf, IntKind.min, IntKind.max, IntKind.signed, IntKind.bits] at h
  omega
/-- Two keys of a ladder are one just where the first ones are. -/
def Rungs (a b x y : Int) : Prop := (0 ≤ x ∧ x < 18446744073709551616) ∧ (0 ≤ y ∧ y < 18446744073709551616) ∧ (x = y ↔ a = b)
theorem Rungs.step {a b x y : Int} (h : Rungs a b x y) (g : Int) : Rungs a b (H.mixI x g) (H.mixI y g) := by
  refine ⟨H.mixI_range _ _, H.mixI_range _ _, ?_⟩
  obtain ⟨hx, hy, h⟩ := h
  rw [H.mixI_left, ← h]
  omega
theorem Rungs.eq {a b x y : Int} (h : Rungs a b x y) : (x == y) = (a == b) := by
  rw [Bool.eq_iff_iff]
  simpa using h.2.2

set_option maxHeartbeats 1000000 in
theorem walk (a0 : Int) (a1 : Int) (a2 : Int) (w : World) (w0 : (Lit.int .u64 a0).wf = true) (w1 : (Lit.int .u64 a1).wf = true) (w2 : (Lit.int .i64 a2).wf = true) :
    Calls Try.prog 9 #[.int .u64 a0, .int .u64 a1, .int .i64 a2] w fun e w' => e = .returned (.bool true) ∧ Below w.heap.size w w' := by
  obtain ⟨k0, hk0, hk1, har⟩ := H.around_any a2 201 w2 (by omega) (by omega)
  have R0 : Rungs a0 a1 a0 a1 := ⟨u64_range w0, u64_range w1, Iff.rfl⟩
  clear w0 w1 w2
  go_enter Try.func9, Try.ntmps9
  go_wp2_with fail
  refine (har w).mono ?_
  clear har
  rintro e w' ⟨rfl, rfl⟩
  go_wp2_with fail
  go_loop [7, 8, 9] (fun x y i => ∃ X Y j : Int, 0 ≤ j ∧ j ≤ 200 ∧ i = .int .i64 j ∧ x = .int .u64 X ∧ y = .int .u64 Y ∧ Rungs a0 a1 X Y) (fun _ _ i => (intOf i).toNat)
  case atStart => exact ⟨a0, a1, k0, by omega, by omega, rfl, rfl, rfl, R0⟩
  case round =>
    obtain ⟨X, Y, j, hj0, hj1, rfl, rfl, rfl, hR⟩ := hrel
    have HR := Lib.hid hR
    clear hR R0
    by_cases hlt : 0 < j
    · go_wp2_with fail
      refine (H.step_any X w).mono ?_
      rintro e w' ⟨rfl, rfl⟩
      go_wp2_with fail
      refine (H.step_any Y w).mono ?_
      rintro e w' ⟨rfl, rfl⟩
      go_wp2_with fail
      go_round
      case rel => exact ⟨_, _, j - 1, by omega, by omega, rfl, rfl, rfl, HR.out.step _⟩
      case measure => simp [intOf]; omega
    · obtain ⟨c, hc⟩ : ∃ c : Bool, (a0 == a1) = c := ⟨_, rfl⟩
      have f1 : (X == Y) = c := HR.out.eq.trans hc
      go_wp2_with fail
      refine (H.lives_any w).mono ?_
      rintro e w1 ⟨rfl, b1⟩
      go_wp2_with fail
      go_ret
      exact ⟨rfl, b1⟩

set_option maxRecDepth 100000 in
theorem lifted (os : Os) (started : os.Started) (H0 : Type) (enc : TypeId × Value → H0) :
    ReturnsInHanded {} Try.checked os 9 .any (Rows.hashLadderSpec.pre6 enc Try.prog Try.f9 Rows.hashLadderRow.domain false) (Rows.hashLadderSpec.post enc Try.prog Try.f9 false true false false) := by
  refine returnsInHanded_of_change_sized (C := Try.checked) H.own started (by kernel_rfl) Try.func9
    (ChangeSpec.witness6 (enc := enc) (C := Try.checked) false ⟨#[], #[.int .u64 0, .int .u64 0, .int .i64 0], []⟩ 8 (by kernel_rfl) (by kernel_rfl) (by kernel_rfl) (by kernel_rfl)) ?_
  intro W base args ds gs before hval0 hW hcnd hsz0 _
  have hsz : (DataW.weightsEach Try.prog (Try.f9.params.toList ++ Rows.hashLadderSpec.plain.varTypes Try.prog) (ds ++ gs)).all (· ≤ reachBytes) = true := hsz0
  clear hsz0
  have hval : ∀ (j : Nat) t v, Try.f9.params[j]? = some t → args[j]? = some v → Value.okWide Try.prog W .any base t v := hval0
  have hW' := hW
  obtain ⟨p, q, hA0, hV, rfl, hfz, hnd⟩ := hW
  have hA : DataW.TrodAll enc Try.prog W 0 (fun _ => true) true Try.f9.params.toList args.toList ds p := hA0
  rw [Try.params9] at hA hval hsz
  obtain ⟨v0, vs0, d0, ds0, p0, q0, hargs, rfl, rfl, h0, r0⟩ := trodAll_cons hA
  obtain ⟨v1, vs1, d1, ds1, p1, q1, rfl, rfl, rfl, h1, r1⟩ := trodAll_cons r0
  obtain ⟨v2, vs2, d2, ds2, p2, q2, rfl, rfl, rfl, h2, r2⟩ := trodAll_cons r1
  obtain ⟨rfl, rfl, rfl⟩ := trodAll_nil r2
  obtain rfl : args = #[v0, v1, v2] := by cases args; simp_all
  obtain ⟨rfl, rfl⟩ := trodVars_none hV
  obtain ⟨a0, rfl, rfl, rfl, w0⟩ := open_int Try.underlying23 (hval 0 23 v0 rfl rfl) h0
  obtain ⟨a1, rfl, rfl, rfl, w1⟩ := open_int Try.underlying23 (hval 1 23 v1 rfl rfl) h1
  obtain ⟨a2, rfl, rfl, rfl, w2⟩ := open_int Try.underlying3 (hval 2 3 v2 rfl rfl) h2
  clear hA0 hval0
  refine (walk a0 a1 a2 W w0 w1 w2).mono fun e W' ⟨he, bel⟩ => ?_
  subst he
  exact ⟨_, rfl, _, _, _, [], _, [], hW', trodAll_mk1 (shut_bool Try.underlying4 _), (trodAll_cons_mk (shut_int Try.underlying23 w0) (trodAll_cons_mk (shut_int Try.underlying23 w1) (trodAll_cons_mk (shut_int Try.underlying3 w2) trodAll_mk0))), rfl, bel.frame _, fun h => by cases h⟩

/-- ████ THE STATEMENT ████ -/
theorem proved : Rows.HashLadderSaid :=
  OpenClaim.holds_of_wide 9 Try.f9 rfl rfl rfl rfl rfl rfl rfl ⟨rfl, rfl, rfl, rfl, rfl⟩ rfl rfl rfl rfl rfl (by kernel_rfl) Try.func9 (by kernel_rfl)
    (of_decide_eq_true (by kernel_rfl)) (by unfold Func.isWrapper; first | (rw [if_pos (by decide +kernel)]; kernel_rfl) | (rw [if_neg (by decide +kernel)]; exact ⟨rfl, rfl⟩))
    (fun os started H0 enc _ => lifted os started H0 enc)
end Go.Proofs.Ytcgppbbpdnobfaa.hashLadder
