/-
  For all histories in which the counter errs by no more than its drift says, ClockSound returns true: Advance and Correlate return intervals that contain the true tick, and Correlate contains nothing that the interval before does not contain; and the chapter's examples hold.
-/
import Derived.Test.YtlmbpbhdbgadjaaKChk
import Derived.Test.YtlmbpbhdbgadjaaKKp3
import Derived.Test.YtlmbpbhdbgadjaaKMath4
import Derived.Test.YtlmbpbhdbgadjaaKMath2
import Derived.Deep.DeepCutAuto
import Derived.Deep.RegionHeld3
import Derived.Deep.LoopGhost
import Derived.Deep.QuietTactic
namespace Go.Proofs.Ytlmbpbhdbgadjaa.clockSound
open Go.ChangeShapes Go.WideShapes Go.ChangeAt Go.RowKit
open Go.ChangeMaps (open_string shut_string)
set_option linter.unusedVariables false

set_option maxRecDepth 100000 in
set_option maxHeartbeats 4000000 in
theorem walk (x0 : K.Cs) (a1 : Int) (a2 : Int) (a3 : Int) (w : World) (ok0 : x0.Ok) (w1 : (Lit.int .i64 a1).wf = true) (w2 : (Lit.int .i64 a2).wf = true) (w3 : (Lit.int .i64 a3).wf = true) :
    Calls Try.prog 9 #[x0.v, .int .i64 a1, .int .i64 a2, .int .i64 a3] w fun e w' => e = .returned (.bool true) ∧ Below w.heap.size w w' := by
  have q1 := H.i64_range w1
  have q2 := H.i64_range w2
  have q3 := H.i64_range w3
  have HL := Lib.hid (fun W => K.lives_any W)
  have HI := Lib.hid (fun W => K.interval_any x0 W ok0)
  have HD := Lib.hid (fun W => K.drift_any x0.drift W ok0.2.2.2.2.2.2)
  have HS := Lib.hid (fun W => H.around_any x0.sent 1000 ok0.2.2.1.1 ok0.2.2.1.2 (by omega) (by omega) W)
  have HT := Lib.hid (fun W => H.around_any x0.took 5000 ok0.2.2.2.1.1 ok0.2.2.2.1.2 (by omega) (by omega) W)
  have HN := Lib.hid (fun W => H.around_any x0.since 5000 ok0.2.2.2.2.1.1 ok0.2.2.2.2.1.2 (by omega) (by omega) W)
  have N0 := (K.Kp.start w).newC x0 23
  have ht := K.t_bd x0.lo x0.wide
  have hd := K.drf_bd x0.drift
  have hs := H.around_lt x0.sent (m := 1000) (by omega)
  have hk := H.around_lt x0.took (m := 5000) (by omega)
  have hn := H.around_lt x0.since (m := 5000) (by omega)
  have q5 := ok0.2.2.2.2.2.1
  clear ok0 w1 w2 w3
  generalize K.tlo x0.lo = lo at *
  generalize K.thi x0.lo x0.wide = hi at *
  generalize K.drf x0.drift = d at *
  generalize H.around x0.sent 1000 = sent at *
  generalize H.around x0.took 5000 = took at *
  generalize H.around x0.since 5000 = since at *
  have hu := H.around_lt a1 (m := hi - lo + 1) (by omega)
  have HU : RowKit.Hid (∀ m, m = hi - lo + 1 → ∀ W, Calls Try.prog 23 #[.int .i64 a1, .int .i64 m] W fun e w' => e = .returned (.int .i64 (H.around a1 (hi - lo + 1))) ∧ w' = W) := Lib.hid (by
    intro m hm W; subst hm; exact H.around_any a1 _ q1.1 q1.2 (by omega) (by omega) W)
  generalize H.around a1 (hi - lo + 1) = u at *
  have HE := Lib.hid (fun W => K.ceil_any took d W hk.1 (by omega) hd.1 hd.2)
  have HF := Lib.hid (fun W => K.ceil_any since d W hn.1 (by omega) hd.1 hd.2)
  have c1 := K.cd_nonneg hk.1 hd.1
  have c2 := K.cd_self hk.1 hd.1
  have c3 := K.cd_nonneg hn.1 hd.1
  have c4 := K.cd_self hn.1 hd.1
  have SND := fun v z y hv hz hy hM => K.sound (sent := sent) (u := u) (v := v) (z := z) (y := y) ht hd.1 hk.1 hn.1 hs.1 ⟨hu.1, by omega⟩ hv hz hy hM
  have HV1 := Lib.hid (fun W => K.advance_any lo hi took d W ⟨by omega, by omega⟩ ⟨by omega, by omega⟩ hk.1 (by omega) hd.1 hd.2)
  have l1 := K.lim_bd (lo + took - K.cd took d)
  have l2 := K.lim_bd (hi + took + K.cd took d)
  have HV2 := Lib.hid (fun W => K.advance_any (K.alo lo took d) (K.ahi hi took d) since d W ⟨by unfold K.alo; omega, by unfold K.alo; omega⟩ ⟨by unfold K.ahi; omega, by unfold K.ahi; omega⟩ hn.1 (by omega) hd.1 hd.2)
  have HCO := Lib.hid (fun wl wh tk W => K.correlate_any wl wh sent (sent + took) tk (sent + took + since) d W (by omega) hd.1 hd.2)
  clear l1 l2
  generalize K.alo (K.alo lo took d) since d = wl at *
  generalize K.ahi (K.ahi hi took d) since d = wh at *
  generalize K.alo lo took d = al at *
  generalize K.ahi hi took d = ah at *
  generalize K.cd took d = e at *
  generalize K.cd since d = f at *
  have hv := H.around_lt a2 (m := 2 * e + 1) (by omega)
  have HV : RowKit.Hid (∀ m, m = 2 * e + 1 → ∀ W, Calls Try.prog 23 #[.int .i64 a2, .int .i64 m] W fun e' w' => e' = .returned (.int .i64 (H.around a2 (2 * e + 1))) ∧ w' = W) := Lib.hid (by
    intro m hm W; subst hm; exact H.around_any a2 _ q2.1 q2.2 (by omega) (by omega) W)
  generalize H.around a2 (2 * e + 1) = v at *
  have hz := H.around_lt a3 (m := 2 * f + 1) (by omega)
  have HZ : RowKit.Hid (∀ m, m = 2 * f + 1 → ∀ W, Calls Try.prog 23 #[.int .i64 a3, .int .i64 m] W fun e' w' => e' = .returned (.int .i64 (H.around a3 (2 * f + 1))) ∧ w' = W) := Lib.hid (by
    intro m hm W; subst hm; exact H.around_any a3 _ q3.1 q3.2 (by omega) (by omega) W)
  generalize H.around a3 (2 * f + 1) = z at *
  have hy := H.around_lt x0.tick (m := took - e + v + 1) (by omega)
  have HY : RowKit.Hid (∀ m, m = took - e + v + 1 → ∀ W, Calls Try.prog 23 #[.int .i64 x0.tick, .int .i64 m] W fun e' w' => e' = .returned (.int .i64 (H.around x0.tick (took - e + v + 1))) ∧ w' = W) := Lib.hid (by
    intro m hm W; subst hm; exact H.around_any x0.tick _ q5.1 q5.2 (by omega) (by omega) W)
  generalize H.around x0.tick (took - e + v + 1) = y at *
  have hw1 : IntKind.i64.wrap (hi - lo) = hi - lo := IntWalk.i64_in _ (by omega)
  have hw2 : IntKind.i64.wrap (hi - lo + 1) = hi - lo + 1 := IntWalk.i64_in _ (by omega)
  have hw3 : IntKind.i64.wrap (lo + u) = lo + u := IntWalk.i64_in _ (by omega)
  clear q1 q2 q3 q5
  go_enter Try.func9, Try.ntmps9
  go_upto_region 6 with (first
    | (go_at_call 17; refine (HD.out _).mono ?_; rintro e w9 ⟨rfl, rfl⟩)
    | (go_at_call 14; refine (HI.out _).mono ?_; rintro e w1 ⟨rfl, hB⟩; have N1 := (N0.call hB).new2 lo hi 25; obtain ⟨i0, i1, i2, i3, i4, i5, i6⟩ := N1.c7 (b := w.heap.size) K.mem2; clear hB N0)
    | (go_at_call 23; with_reducible (first | (refine (HS.out _).mono ?_; rintro e w9 ⟨rfl, rfl⟩) | (refine (HT.out _).mono ?_; rintro e w9 ⟨rfl, rfl⟩) | (refine (HN.out _).mono ?_; rintro e w9 ⟨rfl, rfl⟩))))
  have m0 : (w1.heap.size, 0, lo) ∈ ((w1.heap.size, 0, lo) :: (w1.heap.size, 1, hi) :: (K.csL w.heap.size x0 ++ []) : K.CL) := by simp
  have m1 : (w1.heap.size, 1, hi) ∈ ((w1.heap.size, 0, lo) :: (w1.heap.size, 1, hi) :: (K.csL w.heap.size x0 ++ []) : K.CL) := by simp
  have m5 : (w.heap.size, 5, x0.tick) ∈ ((w1.heap.size, 0, lo) :: (w1.heap.size, 1, hi) :: (K.csL w.heap.size x0 ++ []) : K.CL) := by simp [K.csL]
  clear i0 i1 i2 i3 i4 i5 i6
  generalize ((w1.heap.size, 0, lo) :: (w1.heap.size, 1, hi) :: (K.csL w.heap.size x0 ++ []) : K.CL) = L at *
  generalize w1.alloc (.cells #[.int .i64 lo, .int .i64 hi] 25) = X at *
  generalize w1.heap.size = bt at *
  go_wp2_with fail
  go_region_held3 (fun W => W.cell? ⟨bt, 0, none⟩ = some (.int .i64 lo) ∧ W.cell? ⟨bt, 1, none⟩ = some (.int .i64 hi)) (with_reducible exact ⟨N1.drew.at m0, N1.drew.at m1⟩) ((go_at_call 23; with_reducible refine (HU.out _ (by omega) _).mono ?_; rintro e w9 ⟨rfl, hw9⟩; rw [hw9]; clear hw9 w9))
  all_goals
    have N2 := N1.drew
    clear hw1 hw2 hw3
    generalize X.drew = Y at *
  by_cases hM : 1000000 < lo + u + (took - e + v) + since - f + z
  · go_wp2_with (first
      | (go_at_call 37; with_reducible refine (HE.out _).mono ?_; rintro e v1 ⟨rfl, hB⟩; have N3 := N2.call hB; clear hB)
      | (go_at_call 37; with_reducible refine (HF.out _).mono ?_; rintro e v2 ⟨rfl, hB⟩; have N4 := N3.call hB; clear hB)
      | (go_at_call 23; with_reducible (first | (refine (HV.out _ (by omega) _).mono ?_; rintro e w9 ⟨rfl, rfl⟩) | (refine (HZ.out _ (by omega) _).mono ?_; rintro e w9 ⟨rfl, rfl⟩)))
      | (go_at_call 19; refine (HL.out _).mono ?_; rintro e v3 ⟨rfl, hB⟩; have N5 := N4.call hB; clear hB))
    all_goals go_ret
    all_goals exact ⟨rfl, N5.bel⟩
  · obtain ⟨nl, nh, hcor, g1, g2, g3, g4, g5, g6⟩ := SND v z y ⟨hv.1, by omega⟩ ⟨hz.1, by omega⟩ ⟨hy.1, by omega⟩ (by omega)
    have HC : RowKit.Hid (∀ W, Calls Try.prog 21 #[K.iv wl wh, K.sm sent (sent + took) (lo + u + y), .int .i64 (sent + took + since), .int .i64 d] W fun e' w' => e' = .returned (.tuple #[K.iv nl nh, .int .i64 0]) ∧ RowKit.Below W.heap.size W w') :=
      Lib.hid (fun W => by have h := HCO.out wl wh (lo + u + y) W; rwa [hcor] at h)
    have HH1 : RowKit.Hid (∀ W, Calls Try.prog 38 #[K.iv wl wh, .int .i64 (lo + u + (took - e + v) + since - f + z)] W fun e' w' => e' = .returned (.bool true) ∧ RowKit.Below W.heap.size W w') :=
      Lib.hid (fun W => by have h := K.holds_any wl wh (lo + u + (took - e + v) + since - f + z) W; rwa [decide_eq_true g5, decide_eq_true g6] at h)
    have HH2 : RowKit.Hid (∀ W, Calls Try.prog 38 #[K.iv nl nh, .int .i64 (lo + u + (took - e + v) + since - f + z)] W fun e' w' => e' = .returned (.bool true) ∧ RowKit.Below W.heap.size W w') :=
      Lib.hid (fun W => by have h := K.holds_any nl nh (lo + u + (took - e + v) + since - f + z) W; rwa [decide_eq_true g1, decide_eq_true g2] at h)
    clear SND hcor
    go_wp2_with (first
      | (go_at_call 37; with_reducible refine (HE.out _).mono ?_; rintro e v1 ⟨rfl, hB⟩; have N3 := N2.call hB; clear hB)
      | (go_at_call 37; with_reducible refine (HF.out _).mono ?_; rintro e v2 ⟨rfl, hB⟩; have N4 := N3.call hB; have x0a := N4.at m0; have x0b := N4.at m1; clear hB)
      | (go_at_call 23; with_reducible (first | (refine (HV.out _ (by omega) _).mono ?_; rintro e w9 ⟨rfl, rfl⟩) | (refine (HZ.out _ (by omega) _).mono ?_; rintro e w9 ⟨rfl, rfl⟩) | (refine (HY.out _ (by omega) _).mono ?_; rintro e w9 ⟨rfl, rfl⟩)))
      | (go_at_call 15; with_reducible refine (HV1.out _).mono ?_; rintro e v3 ⟨rfl, hB⟩; have N5 := N4.call hB; clear hB)
      | (go_at_call 15; with_reducible refine (HV2.out _).mono ?_; rintro e v4 ⟨rfl, hB⟩; have N6 := (N5.call hB).new2 wl wh 25; have x5 := N6.at (List.mem_cons_of_mem _ (List.mem_cons_of_mem _ m5)); have N7 := N6.alloc (.cells #[.int .i64 sent, .int .i64 (sent + took), .int .i64 (lo + u + y)] 32); clear hB)
      | (go_at_call 21; with_reducible refine (HC.out _).mono ?_; rintro e v5 ⟨rfl, hB⟩; have N9 := (N7.call hB).new2 nl nh 25; have y0 := N9.at (b := v4.heap.size) (o := 0) (n := wl) (by simp); have y1 := N9.at (b := v4.heap.size) (o := 1) (n := wh) (by simp); clear hB)
      | (go_at_call 38; with_reducible refine (HH1.out _).mono ?_; rintro e v6 ⟨rfl, hB⟩; have N10 := N9.call hB; have z0 := N10.at (b := v5.heap.size) (o := 0) (n := nl) (by simp); have z1 := N10.at (b := v5.heap.size) (o := 1) (n := nh) (by simp); clear hB)
      | (go_at_call 38; with_reducible refine (HH2.out _).mono ?_; rintro e v7 ⟨rfl, hB⟩; have N11 := N10.call hB; have t0 := N11.at (b := v5.heap.size) (o := 0) (n := nl) (by simp); have t1 := N11.at (b := v5.heap.size) (o := 1) (n := nh) (by simp); have t2 := N11.at (b := v4.heap.size) (o := 0) (n := wl) (by simp); have t3 := N11.at (b := v4.heap.size) (o := 1) (n := wh) (by simp); clear hB)
      | (go_at_call 19; refine (HL.out _).mono ?_; rintro e v8 ⟨rfl, hB⟩; have N12 := N11.call hB; clear hB))
    all_goals go_ret
    all_goals exact ⟨rfl, N12.bel⟩

set_option maxRecDepth 100000 in
theorem lifted (os : Os) (started : os.Started) (H0 : Type) (enc : TypeId × Value → H0) :
    ReturnsInHanded {} Try.checked os 9 .any (Rows.clockSoundSpec.pre6 enc Try.prog Try.f9 Rows.clockSoundRow.domain false) (Rows.clockSoundSpec.post enc Try.prog Try.f9 false true false false) := by
  refine returnsInHanded_of_change_sized (C := Try.checked) Go.Proofs.Ytlmbpbhdbgadjaa.O.own started (by kernel_rfl) Try.func9
    (ChangeSpec.witness6 (enc := enc) (C := Try.checked) false ⟨#[], #[.agg #[.int .i64 0, .int .i64 0, .int .i64 0, .int .i64 0, .int .i64 0, .int .i64 0, .int .i64 0], .int .i64 0, .int .i64 0, .int .i64 0], []⟩ 8 (by kernel_rfl) (by kernel_rfl) (by kernel_rfl) (by kernel_rfl)) ?_
  intro W base args ds gs before hval0 hW hcnd hsz0 _
  have hsz : (DataW.weightsEach Try.prog (Try.f9.params.toList ++ Rows.clockSoundSpec.plain.varTypes Try.prog) (ds ++ gs)).all (· ≤ reachBytes) = true := hsz0
  clear hsz0
  have hval : ∀ (j : Nat) t v, Try.f9.params[j]? = some t → args[j]? = some v → Value.okWide Try.prog W .any base t v := hval0
  have hW' := hW
  obtain ⟨p, q, hA0, hV, rfl, hfz, hnd⟩ := hW
  have hA : DataW.TrodAll enc Try.prog W 0 (fun _ => true) true Try.f9.params.toList args.toList ds p := hA0
  rw [Try.params9] at hA hval hsz
  obtain ⟨v0, vs0, d0, ds0, p0, q0, hargs, rfl, rfl, h0, r0⟩ := trodAll_cons hA
  obtain ⟨v1, vs1, d1, ds1, p1, q1, rfl, rfl, rfl, h1, r1⟩ := trodAll_cons r0
  obtain ⟨v2, vs2, d2, ds2, p2, q2, rfl, rfl, rfl, h2, r2⟩ := trodAll_cons r1
  obtain ⟨v3, vs3, d3, ds3, p3, q3, rfl, rfl, rfl, h3, r3⟩ := trodAll_cons r2
  obtain ⟨rfl, rfl, rfl⟩ := trodAll_nil r3
  obtain rfl : args = #[v0, v1, v2, v3] := by cases args; simp_all
  obtain ⟨rfl, rfl⟩ := trodVars_none hV
  have k0 := h0
  have lt0 : ∀ x ∈ p0, x.block < W.heap.size := by obtain ⟨m, hm⟩ := k0; exact DataW.trod_lt m _ _ _ hm
  obtain ⟨x0, rfl, ok0⟩ := Go.Proofs.Ytlmbpbhdbgadjaa.K.open_Cs (hval 0 23 v0 rfl rfl) h0
  obtain ⟨a1, rfl, rfl, rfl, w1⟩ := open_int Try.underlying3 (hval 1 3 v1 rfl rfl) h1
  obtain ⟨a2, rfl, rfl, rfl, w2⟩ := open_int Try.underlying3 (hval 2 3 v2 rfl rfl) h2
  obtain ⟨a3, rfl, rfl, rfl, w3⟩ := open_int Try.underlying3 (hval 3 3 v3 rfl rfl) h3
  clear hA0 hval0
  refine (walk x0 a1 a2 a3 W ok0 w1 w2 w3).mono fun e W' ⟨he, bel⟩ => ?_
  subst he
  exact ⟨_, rfl, _, _, _, [], _, [], hW', trodAll_mk1 (shut_bool Try.underlying4 _), (trodAll_cons_mk (Below.trod Go.Proofs.Ytlmbpbhdbgadjaa.O.laidOut (by kernel_rfl) (of_decide_eq_true (by kernel_rfl)) k0 bel lt0) (trodAll_cons_mk (shut_int Try.underlying3 w1) (trodAll_cons_mk (shut_int Try.underlying3 w2) (trodAll_cons_mk (shut_int Try.underlying3 w3) trodAll_mk0)))), rfl, bel.frame _, fun h => by cases h⟩

/-- ████ THE STATEMENT ████ -/
theorem proved : Rows.ClockSoundSaid :=
  OpenClaim.holds_of_wide 9 Try.f9 rfl rfl rfl rfl rfl rfl rfl ⟨rfl, rfl, rfl, rfl, rfl⟩ rfl rfl rfl rfl rfl (by kernel_rfl) Try.func9 (by kernel_rfl)
    (of_decide_eq_true (by kernel_rfl)) (by unfold Func.isWrapper; first | (rw [if_pos (by decide +kernel)]; kernel_rfl) | (rw [if_neg (by decide +kernel)]; exact ⟨rfl, rfl⟩))
    (fun os started H0 enc _ => lifted os started H0 enc)
end Go.Proofs.Ytlmbpbhdbgadjaa.clockSound
