/-
  For all batteries and lists of loads, PowerChecks returns true: both Checks return the same error, Essential of valid loads is the same, and the chapter's examples hold.
-/
import Derived.Test.YtobbnbelacncjaaPwLaw
import Derived.Test.YtobbnbelacncjaaPwBat
import Derived.Deep.DeepCutAuto
import Derived.Deep.RegionHeld3
import Derived.Deep.LoopGhost
import Derived.Deep.QuietTactic
namespace Go.Proofs.Ytobbnbelacncjaa.powerChecks
open Go.ChangeShapes Go.WideShapes Go.ChangeAt Go.RowKit
open Go.ChangeMaps (open_string shut_string)
set_option linter.unusedVariables false

set_option maxRecDepth 100000 in
set_option maxHeartbeats 4000000 in
theorem walk (x0 : Pw.Bt) (a1 : Option Addr) (n1 c1 : Nat) (z1 : List Pw.Ld) (w : World) (ok0 : x0.Ok) (l1 : z1.length = n1) (cp1 : n1 ≤ c1 ∧ c1 ≤ maxLen) (nz1 : a1 = none → c1 = 0) (rd1 : Pw.RdsLd w w.heap.size a1 z1) (ok1 : ∀ x ∈ z1, x.Ok) :
    Calls Try.prog 3 #[x0.v, .slice a1 n1 c1] w fun e w' => e = .returned (.bool true) ∧ Below w.heap.size w w' := by
  subst l1
  have HL := Lib.hid (fun W => Pw.lives_any W)
  by_cases h100 : 100 < z1.length
  · clear cp1 nz1 rd1 ok1 ok0
    generalize z1.length = zl at *
    obtain ⟨xc, xg, xr⟩ := x0
    go_enter Try.func3, Try.ntmps3
    go_wp2_with (go_at_call 12; refine (HL.out _).mono ?_; rintro e w2 ⟨rfl, hB⟩)
    go_ret
    exact ⟨rfl, Pw.belT _ hB⟩
  · have HMD := Lib.hid (fun W (hW : RowKit.Below w.heap.size w W) => Pw.rmade2_any z1 a1 c1 w.heap.size W hW.size (by omega) ok1 (rd1.below hW))
    have HC1 := Lib.hid (fun W (hW : RowKit.Below w.heap.size w W) => Pw.pcheck_any x0 z1 a1 c1 w.heap.size W hW.size cp1 (rd1.below hW))
    have HC2 := Lib.hid (fun W (hW : RowKit.Below w.heap.size w W) => Pw.rcheck_any x0 z1 a1 c1 w.heap.size W hW.size (by omega) (rd1.below hW))
    obtain ⟨m1, m2, m3⟩ := Pw.made_ok z1
    have m4 := Pw.made_pow z1
    generalize Pw.madeL z1 = M at *
    have HC3 : RowKit.Hid (∀ W A c, Pw.RdsLd W W.heap.size A M → M.length ≤ c ∧ c ≤ maxLen → Calls Try.prog 14 #[.agg #[.int .i64 0, .int .i64 0, .int .i64 0], .slice A M.length c] W fun e w' => e = .returned (.int .i64 0) ∧ RowKit.Below W.heap.size W w') := Lib.hid (fun W A c hr hc => by
      have h := Pw.pcheck_any ⟨0, 0, 0⟩ M A c W.heap.size W (Nat.le_refl _) hc hr
      rwa [Pw.chk_ok (b := ⟨0, 0, 0⟩) rfl (by omega) m4 m3] at h)
    have HE1 := Lib.hid (fun W A c (hr : Pw.RdsLd W W.heap.size A M) => Pw.pess_any M A c W.heap.size W (Nat.le_refl _) (by omega) m4 hr)
    have HE2 := Lib.hid (fun W A c (hr : Pw.RdsLd W W.heap.size A M) => Pw.ressential_any M A c W.heap.size W (Nat.le_refl _) (by omega) m4 hr)
    clear cp1 nz1 rd1 ok1 ok0 m1 m2 m3 m4
    generalize z1.length = zl at *
    generalize Pw.chkB x0 z1 = e0 at *
    generalize Pw.esum M = es at *
    generalize M.length = ml at *
    obtain ⟨xc, xg, xr⟩ := x0
    dsimp only [Pw.Bt.v] at *
    obtain ⟨W1, hW1⟩ : ∃ W1, W1 = w.alloc (.cells #[.int .i64 xc, .int .i64 xg, .int .i64 xr] 23) := ⟨_, rfl⟩
    have q0 : W1.cell? ⟨w.heap.size, 0, none⟩ = some (.int .i64 xc) := by rw [hW1]; exact Pw.cell_top _ _ _ _
    have q1 : W1.cell? ⟨w.heap.size, 1, none⟩ = some (.int .i64 xg) := by rw [hW1]; exact Pw.cell_top _ _ _ _
    have q2 : W1.cell? ⟨w.heap.size, 2, none⟩ = some (.int .i64 xr) := by rw [hW1]; exact Pw.cell_top _ _ _ _
    have HB1 : RowKit.Hid (RowKit.Below w.heap.size w W1) := Lib.hid (by rw [hW1]; exact Pw.bel1 w _)
    have HW1 := Lib.hid hW1
    clear hW1
    go_enter Try.func3, Try.ntmps3
    go_upto_region 4 with (go_at_call 13; rw [← HW1.out]; refine (HMD.out _ HB1.out).mono ?_; rintro e w2 ⟨A2, c2, rfl, r2, hc2, hB⟩; have R2 := Lib.hid r2; have HC := Lib.hid hc2; have HB2 := Lib.hid (Pw.bt HB1.out hB); have p0 := Pw.below_cell hB q0; have p1 := Pw.below_cell hB q1; have p2 := Pw.below_cell hB q2; clear r2 hc2 hB q0 q1 q2)
    have q0 := Pw.below_cell (Pw.below_drew w2) p0
    have q1 := Pw.below_cell (Pw.below_drew w2) p1
    have q2 := Pw.below_cell (Pw.below_drew w2) p2
    have N5 := Lib.hid (And.intro q0 (And.intro q1 q2))
    clear q0 q1 q2
    have B5 := Lib.hid (Pw.bt HB2.out (Pw.below_drew w2))
    have R5 := Lib.hid ((R2.out.below (Pw.below_drew w2)).more (Pw.below_drew w2).size)
    go_region_held3 (fun W => W.cell? ⟨w.heap.size, 0, none⟩ = some (.int .i64 xc) ∧ W.cell? ⟨w.heap.size, 1, none⟩ = some (.int .i64 xg) ∧ W.cell? ⟨w.heap.size, 2, none⟩ = some (.int .i64 xr)) (with_reducible (first | exact N5.out | exact N6.out | exact N7.out | exact N8.out | exact N9.out | exact N10.out | exact N11.out))
      ((first
        | (go_at_call 14; with_reducible refine (HC1.out _ B5.out).mono ?_; rintro e w6 ⟨rfl, hB⟩; have N6 := Lib.hid (And.intro (Pw.below_cell hB N5.out.1) (And.intro (Pw.below_cell hB N5.out.2.1) (Pw.below_cell hB N5.out.2.2))); have B6 := Lib.hid (Pw.bt B5.out hB); have R6 := Lib.hid ((R5.out.below hB).more hB.size); clear hB)
        | (go_at_call 15; with_reducible refine (HC2.out _ B6.out).mono ?_; rintro e w7 ⟨rfl, hB⟩; have N7 := Lib.hid (And.intro (Pw.below_cell hB N6.out.1) (And.intro (Pw.below_cell hB N6.out.2.1) (Pw.below_cell hB N6.out.2.2))); have B7 := Lib.hid (Pw.bt B6.out hB); have R7 := Lib.hid ((R6.out.below hB).more hB.size); clear hB)
        | (go_at_call 14; with_reducible refine (HC3.out _ _ _ R7.out HC.out).mono ?_; rintro e w8 ⟨rfl, hB⟩; have N8 := Lib.hid (And.intro (Pw.below_cell hB N7.out.1) (And.intro (Pw.below_cell hB N7.out.2.1) (Pw.below_cell hB N7.out.2.2))); have B8 := Lib.hid (Pw.bt B7.out hB); have R8 := Lib.hid ((R7.out.below hB).more hB.size); clear hB)
        | (go_at_call 16; with_reducible refine (HE1.out _ _ _ R8.out).mono ?_; rintro e w9 ⟨rfl, hB⟩; have N9 := Lib.hid (And.intro (Pw.below_cell hB N8.out.1) (And.intro (Pw.below_cell hB N8.out.2.1) (Pw.below_cell hB N8.out.2.2))); have B9 := Lib.hid (Pw.bt B8.out hB); have R9 := Lib.hid ((R8.out.below hB).more hB.size); clear hB)
        | (go_at_call 17; with_reducible refine (HE2.out _ _ _ R9.out).mono ?_; rintro e w10 ⟨rfl, hB⟩; have N10 := Lib.hid (And.intro (Pw.below_cell hB N9.out.1) (And.intro (Pw.below_cell hB N9.out.2.1) (Pw.below_cell hB N9.out.2.2))); have B10 := Lib.hid (Pw.bt B9.out hB); clear hB)
        | (go_at_call 12; with_reducible refine (HL.out _).mono ?_; rintro e w11 ⟨rfl, hB⟩; have N11 := Lib.hid (And.intro (Pw.below_cell hB N10.out.1) (And.intro (Pw.below_cell hB N10.out.2.1) (Pw.below_cell hB N10.out.2.2))); have B11 := Lib.hid (Pw.bt B10.out hB); clear hB)))
    all_goals go_wp2_with fail
    all_goals go_ret
    all_goals exact ⟨rfl, B11.out⟩

set_option maxRecDepth 100000 in
theorem lifted (os : Os) (started : os.Started) (H0 : Type) (enc : TypeId × Value → H0) :
    ReturnsInHanded {} Try.checked os 3 .any (Rows.powerChecksSpec.pre6 enc Try.prog Try.f3 Rows.powerChecksRow.domain false) (Rows.powerChecksSpec.post enc Try.prog Try.f3 false true false false) := by
  refine returnsInHanded_of_change_sized (C := Try.checked) Go.Proofs.Ytobbnbelacncjaa.O.own started (by kernel_rfl) Try.func3
    (ChangeSpec.witness6 (enc := enc) (C := Try.checked) false ⟨#[], #[.agg #[.int .i64 0, .int .i64 0, .int .i64 0], .slice none 0 0], []⟩ 8 (by kernel_rfl) (by kernel_rfl) (by kernel_rfl) (by kernel_rfl)) ?_
  intro W base args ds gs before hval0 hW hcnd hsz0 _
  have hsz : (DataW.weightsEach Try.prog (Try.f3.params.toList ++ Rows.powerChecksSpec.plain.varTypes Try.prog) (ds ++ gs)).all (· ≤ reachBytes) = true := hsz0
  clear hsz0
  have hval : ∀ (j : Nat) t v, Try.f3.params[j]? = some t → args[j]? = some v → Value.okWide Try.prog W .any base t v := hval0
  have hW' := hW
  obtain ⟨p, q, hA0, hV, rfl, hfz, hnd⟩ := hW
  have hA : DataW.TrodAll enc Try.prog W 0 (fun _ => true) true Try.f3.params.toList args.toList ds p := hA0
  rw [Try.params3] at hA hval hsz
  obtain ⟨v0, vs0, d0, ds0, p0, q0, hargs, rfl, rfl, h0, r0⟩ := trodAll_cons hA
  obtain ⟨v1, vs1, d1, ds1, p1, q1, rfl, rfl, rfl, h1, r1⟩ := trodAll_cons r0
  obtain ⟨rfl, rfl, rfl⟩ := trodAll_nil r1
  obtain rfl : args = #[v0, v1] := by cases args; simp_all
  obtain ⟨rfl, rfl⟩ := trodVars_none hV
  have k0 := h0
  have lt0 : ∀ x ∈ p0, x.block < W.heap.size := by obtain ⟨m, hm⟩ := k0; exact DataW.trod_lt m _ _ _ hm
  obtain ⟨x0, rfl, ok0⟩ := Go.Proofs.Ytobbnbelacncjaa.Pw.open_Bt (hval 0 23 v0 rfl rfl) h0
  obtain ⟨a1, n1, c1, rfl⟩ := okWide_slice Try.underlying24 (hval 1 24 v1 rfl rfl)
  have k1 := h1
  have lt1 : ∀ x ∈ p1, x.block < W.heap.size := by obtain ⟨m, hm⟩ := k1; exact DataW.trod_lt m _ _ _ hm
  obtain ⟨z1, l1, cp1, cq1, nz1, rd1, ok1⟩ := Go.Proofs.Ytobbnbelacncjaa.Pw.open_Lds h1
  clear hA0 hval0
  refine (walk x0 a1 n1 c1 z1 W ok0 l1 ⟨cp1, cq1⟩ nz1 rd1 ok1).mono fun e W' ⟨he, bel⟩ => ?_
  subst he
  exact ⟨_, rfl, _, _, _, [], _, [], hW', trodAll_mk1 (shut_bool Try.underlying4 _), (trodAll_cons_mk (Below.trod Go.Proofs.Ytobbnbelacncjaa.O.laidOut (by kernel_rfl) (of_decide_eq_true (by kernel_rfl)) k0 bel lt0) (trodAll_cons_mk (Below.trod Go.Proofs.Ytobbnbelacncjaa.O.laidOut (by kernel_rfl) (of_decide_eq_true (by kernel_rfl)) k1 bel lt1) trodAll_mk0)), rfl, bel.frame _, fun h => by cases h⟩

/-- ████ THE STATEMENT ████ -/
theorem proved : Rows.PowerChecksSaid :=
  OpenClaim.holds_of_wide 3 Try.f3 rfl rfl rfl rfl rfl rfl rfl ⟨rfl, rfl, rfl, rfl, rfl⟩ rfl rfl rfl rfl rfl (by kernel_rfl) Try.func3 (by kernel_rfl)
    (of_decide_eq_true (by kernel_rfl)) (by unfold Func.isWrapper; first | (rw [if_pos (by decide +kernel)]; kernel_rfl) | (rw [if_neg (by decide +kernel)]; exact ⟨rfl, rfl⟩))
    (fun os started H0 enc _ => lifted os started H0 enc)
end Go.Proofs.Ytobbnbelacncjaa.powerChecks
