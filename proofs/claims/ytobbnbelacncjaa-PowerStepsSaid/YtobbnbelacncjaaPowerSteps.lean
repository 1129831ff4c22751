/-
  For all batteries, gains and lists of loads, PowerSteps returns true: both Steps return the same battery and the same supply.
-/
import Derived.Test.YtobbnbelacncjaaPwLaw
import Derived.Test.YtobbnbelacncjaaPwBat
import Derived.Deep.DeepCutAuto
import Derived.Deep.RegionHeld3
import Derived.Deep.LoopGhost
import Derived.Deep.QuietTactic
namespace Go.Proofs.Ytobbnbelacncjaa.powerSteps
open Go.ChangeShapes Go.WideShapes Go.ChangeAt Go.RowKit
open Go.ChangeMaps (open_string shut_string)
set_option linter.unusedVariables false

set_option maxRecDepth 100000 in
set_option maxHeartbeats 4000000 in
theorem walk (x0 : Pw.Bt) (a1 : Int) (a2 : Option Addr) (n2 c2 : Nat) (z2 : List Pw.Ld) (w : World) (ok0 : x0.Ok) (w1 : (Lit.int .i64 a1).wf = true) (l2 : z2.length = n2) (cp2 : n2 ≤ c2 ∧ c2 ≤ maxLen) (nz2 : a2 = none → c2 = 0) (rd2 : Pw.RdsLd w w.heap.size a2 z2) (ok2 : ∀ x ∈ z2, x.Ok) :
    Calls Try.prog 4 #[x0.v, .int .i64 a1, .slice a2 n2 c2] w fun e w' => e = .returned (.bool true) ∧ Below w.heap.size w w' := by
  subst l2
  have HL := Lib.hid (fun W => Pw.lives_any W)
  obtain ⟨W1, hW1⟩ : ∃ W1, W1 = w.alloc (.cells #[.int .i64 x0.cap, .int .i64 x0.chg, .int .i64 x0.res] 23) := ⟨_, rfl⟩
  have q0 : W1.cell? ⟨w.heap.size, 0, none⟩ = some (.int .i64 x0.cap) := by rw [hW1]; exact Pw.cell_top _ _ _ _
  have q1 : W1.cell? ⟨w.heap.size, 1, none⟩ = some (.int .i64 x0.chg) := by rw [hW1]; exact Pw.cell_top _ _ _ _
  have q2 : W1.cell? ⟨w.heap.size, 2, none⟩ = some (.int .i64 x0.res) := by rw [hW1]; exact Pw.cell_top _ _ _ _
  have HB1 : RowKit.Hid (RowKit.Below w.heap.size w W1) := Lib.hid (by rw [hW1]; exact Pw.bel1 w _)
  have HS1 : RowKit.Hid (W1.heap.size = w.heap.size + 1) := Lib.hid (by rw [hW1]; exact Array.size_push ..)
  have HW1 := Lib.hid hW1
  clear hW1
  have N1 := Lib.hid (And.intro q0 (And.intro q1 q2))
  clear q0 q1 q2
  by_cases h1 : 100 < z2.length
  · clear cp2 nz2 rd2 ok2 ok0
    generalize z2.length = zl at *
    obtain ⟨xc, xg, xr⟩ := x0
    dsimp only [Pw.Bt.v] at *
    go_enter Try.func4, Try.ntmps4
    go_wp2_with (go_at_call 12; rw [← HW1.out]; refine (HL.out _).mono ?_; rintro e w2 ⟨rfl, hB⟩)
    go_ret
    exact ⟨rfl, Pw.bt HB1.out hB⟩
  by_cases h2 : a1 < 0
  · clear cp2 nz2 rd2 ok2 ok0
    generalize z2.length = zl at *
    obtain ⟨xc, xg, xr⟩ := x0
    dsimp only [Pw.Bt.v] at *
    go_enter Try.func4, Try.ntmps4
    go_wp2_with (go_at_call 12; rw [← HW1.out]; refine (HL.out _).mono ?_; rintro e w2 ⟨rfl, hB⟩)
    go_ret
    exact ⟨rfl, Pw.bt HB1.out hB⟩
  by_cases h3 : 2147483647 < a1
  · clear cp2 nz2 rd2 ok2 ok0
    generalize z2.length = zl at *
    obtain ⟨xc, xg, xr⟩ := x0
    dsimp only [Pw.Bt.v] at *
    go_enter Try.func4, Try.ntmps4
    go_wp2_with (go_at_call 12; rw [← HW1.out]; refine (HL.out _).mono ?_; rintro e w2 ⟨rfl, hB⟩)
    go_ret
    exact ⟨rfl, Pw.bt HB1.out hB⟩
  have HC2 := Lib.hid (fun W (hW : RowKit.Below w.heap.size w W) => Pw.rcheck_any x0 z2 a2 c2 w.heap.size W hW.size (by omega) (rd2.below hW))
  by_cases h4 : Pw.chkB x0 z2 = 0
  · obtain ⟨hok, hl, hpow, hd⟩ := Pw.chk_inv h4
    have HP := Lib.hid (fun W (hW : RowKit.Below w.heap.size w W) => Pw.pstep_any x0 a1 z2 a2 c2 w.heap.size W hW.size (by omega) hok ⟨by omega, by omega⟩ hpow (rd2.below hW) hd)
    have HR := Lib.hid (fun W (hW : RowKit.Below w.heap.size w W) => Pw.rstep_any x0 a1 z2 a2 c2 w.heap.size W hW.size (by omega) hok ⟨by omega, by omega⟩ hpow (rd2.below hW))
    have HLN : (Pw.tickS x0 a1 z2).ids.length ≤ 140737488351232 := by
      have hr : 0 ≤ x0.res := by
        unfold Pw.Bt.ok at hok
        simp only [decide_eq_true_eq] at hok
        omega
      have h := (Pw.run_ok (s := Pw.st0 x0 a1) hr (fun x hx => hpow x (Pw.mem_ord.1 hx)) (Pw.st0_ok hok (by omega : 0 ≤ a1))).ids
      rw [Pw.ord_len] at h
      unfold Pw.tickS
      omega
    rw [h4] at HC2
    clear cp2 nz2 rd2 ok2 ok0 hok hl hpow hd h4
    generalize z2.length = zl at *
    generalize Pw.tickS x0 a1 z2 = R at *
    generalize Pw.gained x0 a1 = gg at *
    obtain ⟨xc, xg, xr⟩ := x0
    dsimp only [Pw.Bt.v] at *
    obtain ⟨Rg, Ru, Ri, Rb⟩ := R
    dsimp only at *
    go_enter Try.func4, Try.ntmps4
    go_upto_region 4 with (first
      | (go_at_call 15; rw [← HW1.out]; with_reducible refine (HC2.out _ HB1.out).mono ?_; rintro e w3 ⟨rfl, hB⟩; have p0 := Pw.below_cell hB N1.out.1; have p1 := Pw.below_cell hB N1.out.2.1; have p2 := Pw.below_cell hB N1.out.2.2; have B3 := Lib.hid (Pw.bt HB1.out hB); clear hB)
      | (go_at_call 18; with_reducible refine (HP.out _ B3.out).mono ?_; rintro e w4 ⟨A4, c4, rfl, r4, hB⟩; have q0 := Pw.below_cell hB p0; have q1 := Pw.below_cell hB p1; have q2 := Pw.below_cell hB p2; have R4 := Lib.hid r4; have B4 := Lib.hid (Pw.bt B3.out hB); clear hB r4 p0 p1 p2))
    obtain ⟨W5, hW5⟩ : ∃ W5, W5 = (w4.alloc (.cells #[.int .i64 xc, .int .i64 Rg, .int .i64 xr] 23)).alloc (.cells #[.int .i64 gg, .int .i64 Ru, .int .i64 (a1 - gg), .slice A4 Ri.length c4, .bool Rb] 33) := ⟨_, rfl⟩
    have b5 : RowKit.Below w4.heap.size w4 W5 := by rw [hW5]; exact Pw.bel2 w4 _ _
    have z5 : (w4.alloc (.cells #[.int .i64 xc, .int .i64 Rg, .int .i64 xr] 23)).heap.size = w4.heap.size + 1 := Array.size_push ..
    have e0 : W5.cell? ⟨w4.heap.size, 0, none⟩ = some (.int .i64 xc) := by rw [hW5]; exact Pw.below_cell (Pw.bel1 _ _) (Pw.cell_top _ _ _ _)
    have e1 : W5.cell? ⟨w4.heap.size, 1, none⟩ = some (.int .i64 Rg) := by rw [hW5]; exact Pw.below_cell (Pw.bel1 _ _) (Pw.cell_top _ _ _ _)
    have e2 : W5.cell? ⟨w4.heap.size, 2, none⟩ = some (.int .i64 xr) := by rw [hW5]; exact Pw.below_cell (Pw.bel1 _ _) (Pw.cell_top _ _ _ _)
    have f0 : W5.cell? ⟨w4.heap.size + 1, 0, none⟩ = some (.int .i64 gg) := by rw [hW5, ← z5]; exact Pw.cell_top _ _ _ _
    have f1 : W5.cell? ⟨w4.heap.size + 1, 1, none⟩ = some (.int .i64 Ru) := by rw [hW5, ← z5]; exact Pw.cell_top _ _ _ _
    have f2 : W5.cell? ⟨w4.heap.size + 1, 2, none⟩ = some (.int .i64 (a1 - gg)) := by rw [hW5, ← z5]; exact Pw.cell_top _ _ _ _
    have f3 : W5.cell? ⟨w4.heap.size + 1, 3, none⟩ = some (.slice A4 Ri.length c4) := by rw [hW5, ← z5]; exact Pw.cell_top _ _ _ _
    have f4 : W5.cell? ⟨w4.heap.size + 1, 4, none⟩ = some (.bool Rb) := by rw [hW5, ← z5]; exact Pw.cell_top _ _ _ _
    replace q0 := Pw.below_cell b5 q0
    replace q1 := Pw.below_cell b5 q1
    replace q2 := Pw.below_cell b5 q2
    have B5 := Lib.hid (Pw.bt B4.out b5)
    have R5 := Lib.hid ((R4.out.below b5).more b5.size)
    rw [← hW5]
    have HW5 := Lib.hid hW5
    clear hW5 b5 z5
    go_upto_region 5 with (go_at_call 19; with_reducible refine (HR.out _ B5.out).mono ?_; rintro e w6 ⟨A6, c6, rfl, r6, hB⟩; replace e0 := Pw.below_cell hB e0; replace e1 := Pw.below_cell hB e1; replace e2 := Pw.below_cell hB e2; replace f0 := Pw.below_cell hB f0; replace f1 := Pw.below_cell hB f1; replace f2 := Pw.below_cell hB f2; replace f3 := Pw.below_cell hB f3; replace f4 := Pw.below_cell hB f4; have R6 := Lib.hid r6; have R6' := Lib.hid ((R5.out.below hB).more hB.size); have B6 := Lib.hid (Pw.bt B5.out hB); clear hB r6 q0 q1 q2)
    obtain ⟨W7, hW7⟩ : ∃ W7, W7 = (w6.alloc (.cells #[.int .i64 xc, .int .i64 Rg, .int .i64 xr] 23)).alloc (.cells #[.int .i64 gg, .int .i64 Ru, .int .i64 (a1 - gg), .slice A6 Ri.length c6, .bool Rb] 33) := ⟨_, rfl⟩
    have b7 : RowKit.Below w6.heap.size w6 W7 := by rw [hW7]; exact Pw.bel2 w6 _ _
    have z7 : (w6.alloc (.cells #[.int .i64 xc, .int .i64 Rg, .int .i64 xr] 23)).heap.size = w6.heap.size + 1 := Array.size_push ..
    have g0 : W7.cell? ⟨w6.heap.size, 0, none⟩ = some (.int .i64 xc) := by rw [hW7]; exact Pw.below_cell (Pw.bel1 _ _) (Pw.cell_top _ _ _ _)
    have g1 : W7.cell? ⟨w6.heap.size, 1, none⟩ = some (.int .i64 Rg) := by rw [hW7]; exact Pw.below_cell (Pw.bel1 _ _) (Pw.cell_top _ _ _ _)
    have g2 : W7.cell? ⟨w6.heap.size, 2, none⟩ = some (.int .i64 xr) := by rw [hW7]; exact Pw.below_cell (Pw.bel1 _ _) (Pw.cell_top _ _ _ _)
    have h0 : W7.cell? ⟨w6.heap.size + 1, 0, none⟩ = some (.int .i64 gg) := by rw [hW7, ← z7]; exact Pw.cell_top _ _ _ _
    have h1 : W7.cell? ⟨w6.heap.size + 1, 1, none⟩ = some (.int .i64 Ru) := by rw [hW7, ← z7]; exact Pw.cell_top _ _ _ _
    have h2 : W7.cell? ⟨w6.heap.size + 1, 2, none⟩ = some (.int .i64 (a1 - gg)) := by rw [hW7, ← z7]; exact Pw.cell_top _ _ _ _
    have h3 : W7.cell? ⟨w6.heap.size + 1, 3, none⟩ = some (.slice A6 Ri.length c6) := by rw [hW7, ← z7]; exact Pw.cell_top _ _ _ _
    have h4 : W7.cell? ⟨w6.heap.size + 1, 4, none⟩ = some (.bool Rb) := by rw [hW7, ← z7]; exact Pw.cell_top _ _ _ _
    replace e0 := Pw.below_cell b7 e0
    replace e1 := Pw.below_cell b7 e1
    replace e2 := Pw.below_cell b7 e2
    replace f0 := Pw.below_cell b7 f0
    replace f1 := Pw.below_cell b7 f1
    replace f2 := Pw.below_cell b7 f2
    replace f3 := Pw.below_cell b7 f3
    replace f4 := Pw.below_cell b7 f4
    have B7 := Lib.hid (Pw.bt B6.out b7)
    have HSM := Lib.hid (Pw.same_any gg Ru (a1 - gg) Rb A4 A6 c4 c6 Ri W7 HLN ((R6'.out.below b7).more b7.size) ((R6.out.below b7).more b7.size))
    rw [← hW7]
    clear hW7 b7 z7
    go_wp2_with (first
      | (go_at_call 20; with_reducible refine HSM.out.mono ?_; rintro e w8 ⟨rfl, hB⟩; have B8 := Lib.hid (Pw.bt B7.out hB); clear hB)
      | (go_at_call 12; with_reducible refine (HL.out _).mono ?_; rintro e w9 ⟨rfl, hB9⟩))
    go_ret
    exact ⟨rfl, Pw.bt B8.out hB9⟩
  · generalize Pw.chkB x0 z2 = e0 at *
    clear cp2 nz2 rd2 ok2 ok0
    generalize z2.length = zl at *
    obtain ⟨xc, xg, xr⟩ := x0
    dsimp only [Pw.Bt.v] at *
    go_enter Try.func4, Try.ntmps4
    go_wp2_with (first
      | (go_at_call 15; rw [← HW1.out]; with_reducible refine (HC2.out _ HB1.out).mono ?_; rintro e w3 ⟨rfl, hB3⟩)
      | (go_at_call 12; refine (HL.out _).mono ?_; rintro e w2 ⟨rfl, hB⟩))
    · go_ret
      exact ⟨rfl, Pw.bt HB1.out (Pw.bt hB3 hB)⟩
    all_goals exact absurd (‹((zl : Int) ≤ 100 ∧ (e0 != 0) = false)›.2) (by simpa using h4)

set_option maxRecDepth 100000 in
theorem lifted (os : Os) (started : os.Started) (H0 : Type) (enc : TypeId × Value → H0) :
    ReturnsInHanded {} Try.checked os 4 .any (Rows.powerStepsSpec.pre6 enc Try.prog Try.f4 Rows.powerStepsRow.domain false) (Rows.powerStepsSpec.post enc Try.prog Try.f4 false true false false) := by
  refine returnsInHanded_of_change_sized (C := Try.checked) Go.Proofs.Ytobbnbelacncjaa.O.own started (by kernel_rfl) Try.func4
    (ChangeSpec.witness6 (enc := enc) (C := Try.checked) false ⟨#[], #[.agg #[.int .i64 0, .int .i64 0, .int .i64 0], .int .i64 0, .slice none 0 0], []⟩ 8 (by kernel_rfl) (by kernel_rfl) (by kernel_rfl) (by kernel_rfl)) ?_
  intro W base args ds gs before hval0 hW hcnd hsz0 _
  have hsz : (DataW.weightsEach Try.prog (Try.f4.params.toList ++ Rows.powerStepsSpec.plain.varTypes Try.prog) (ds ++ gs)).all (· ≤ reachBytes) = true := hsz0
  clear hsz0
  have hval : ∀ (j : Nat) t v, Try.f4.params[j]? = some t → args[j]? = some v → Value.okWide Try.prog W .any base t v := hval0
  have hW' := hW
  obtain ⟨p, q, hA0, hV, rfl, hfz, hnd⟩ := hW
  have hA : DataW.TrodAll enc Try.prog W 0 (fun _ => true) true Try.f4.params.toList args.toList ds p := hA0
  rw [Try.params4] at hA hval hsz
  obtain ⟨v0, vs0, d0, ds0, p0, q0, hargs, rfl, rfl, h0, r0⟩ := trodAll_cons hA
  obtain ⟨v1, vs1, d1, ds1, p1, q1, rfl, rfl, rfl, h1, r1⟩ := trodAll_cons r0
  obtain ⟨v2, vs2, d2, ds2, p2, q2, rfl, rfl, rfl, h2, r2⟩ := trodAll_cons r1
  obtain ⟨rfl, rfl, rfl⟩ := trodAll_nil r2
  obtain rfl : args = #[v0, v1, v2] := by cases args; simp_all
  obtain ⟨rfl, rfl⟩ := trodVars_none hV
  have k0 := h0
  have lt0 : ∀ x ∈ p0, x.block < W.heap.size := by obtain ⟨m, hm⟩ := k0; exact DataW.trod_lt m _ _ _ hm
  obtain ⟨x0, rfl, ok0⟩ := Go.Proofs.Ytobbnbelacncjaa.Pw.open_Bt (hval 0 23 v0 rfl rfl) h0
  obtain ⟨a1, rfl, rfl, rfl, w1⟩ := open_int Try.underlying3 (hval 1 3 v1 rfl rfl) h1
  obtain ⟨a2, n2, c2, rfl⟩ := okWide_slice Try.underlying24 (hval 2 24 v2 rfl rfl)
  have k2 := h2
  have lt2 : ∀ x ∈ p2, x.block < W.heap.size := by obtain ⟨m, hm⟩ := k2; exact DataW.trod_lt m _ _ _ hm
  obtain ⟨z2, l2, cp2, cq2, nz2, rd2, ok2⟩ := Go.Proofs.Ytobbnbelacncjaa.Pw.open_Lds h2
  clear hA0 hval0
  refine (walk x0 a1 a2 n2 c2 z2 W ok0 w1 l2 ⟨cp2, cq2⟩ nz2 rd2 ok2).mono fun e W' ⟨he, bel⟩ => ?_
  subst he
  exact ⟨_, rfl, _, _, _, [], _, [], hW', trodAll_mk1 (shut_bool Try.underlying4 _), (trodAll_cons_mk (Below.trod Go.Proofs.Ytobbnbelacncjaa.O.laidOut (by kernel_rfl) (of_decide_eq_true (by kernel_rfl)) k0 bel lt0) (trodAll_cons_mk (shut_int Try.underlying3 w1) (trodAll_cons_mk (Below.trod Go.Proofs.Ytobbnbelacncjaa.O.laidOut (by kernel_rfl) (of_decide_eq_true (by kernel_rfl)) k2 bel lt2) trodAll_mk0))), rfl, bel.frame _, fun h => by cases h⟩

/-- ████ THE STATEMENT ████ -/
theorem proved : Rows.PowerStepsSaid :=
  OpenClaim.holds_of_wide 4 Try.f4 rfl rfl rfl rfl rfl rfl rfl ⟨rfl, rfl, rfl, rfl, rfl⟩ rfl rfl rfl rfl rfl (by kernel_rfl) Try.func4 (by kernel_rfl)
    (of_decide_eq_true (by kernel_rfl)) (by unfold Func.isWrapper; first | (rw [if_pos (by decide +kernel)]; kernel_rfl) | (rw [if_neg (by decide +kernel)]; exact ⟨rfl, rfl⟩))
    (fun os started H0 enc _ => lifted os started H0 enc)
end Go.Proofs.Ytobbnbelacncjaa.powerSteps
