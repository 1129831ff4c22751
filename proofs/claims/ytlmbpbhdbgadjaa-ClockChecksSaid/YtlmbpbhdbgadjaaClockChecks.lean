/-
  For all tables and lists of numbers, ClockChecks returns true: CheckLeaps returns the specified error, and accepts the table that is made from the numbers; and the chapter's examples hold.
-/
import Derived.Test.YtlmbpbhdbgadjaaKChk
import Derived.Test.YtlmbpbhdbgadjaaKMath2
import Derived.Deep.DeepCutAuto
import Derived.Deep.RegionHeld3
import Derived.Deep.LoopGhost
import Derived.Deep.QuietTactic
namespace Go.Proofs.Ytlmbpbhdbgadjaa.clockChecks
open Go.ChangeShapes Go.WideShapes Go.ChangeAt Go.RowKit
open Go.ChangeMaps (open_string shut_string)
set_option linter.unusedVariables false

set_option maxRecDepth 100000 in
set_option maxHeartbeats 1000000 in
theorem walk (a0 : Option Addr) (n0 c0 : Nat) (z0 : List K.Lp) (a1 : Option Addr) (n1 c1 : Nat) (z1 : List Int) (w : World) (l0 : z0.length = n0) (cp0 : n0 ≤ c0 ∧ c0 ≤ maxLen) (nz0 : a0 = none → c0 = 0) (rd0 : K.RdsLp w w.heap.size a0 z0) (ok0 : ∀ x ∈ z0, x.Ok) (l1 : z1.length = n1) (cp1 : n1 ≤ c1 ∧ c1 ≤ maxLen) (nz1 : a1 = none → c1 = 0) (rd1 : H.RdI w w.heap.size .i64 a1 z1) (wf1 : ∀ n ∈ z1, (Lit.int .i64 n).wf = true) (r1 : z1.length * 8 ≤ 140737488351232) :
    Calls Try.prog 8 #[.slice a0 n0 c0, .slice a1 n1 c1] w fun e w' => e = .returned (.bool true) ∧ Below w.heap.size w w' := by
  subst l0
  subst l1
  have HL := Lib.hid (fun W => K.lives_any W)
  have HC := Lib.hid (K.check_all z0 a0 c0 w.heap.size w (Nat.le_refl _) rd0 (by omega))
  have HR : RowKit.Hid (∀ W, RowKit.Below w.heap.size w W → Calls Try.prog 36 #[.slice a0 z0.length c0] W fun e w' => e = .returned (.int .i64 (K.chk z0)) ∧ RowKit.Below W.heap.size W w') :=
    Lib.hid (fun W hW => K.rcheck_all z0 a0 c0 w.heap.size W hW.size (rd0.below hW) (by omega))
  have HT : RowKit.Hid (∀ W, RowKit.Below w.heap.size w W → Calls Try.prog 28 #[.slice a1 z1.length c1] W fun e w' => ∃ A2 c2, e = .returned (.slice A2 (K.tab z1).length c2) ∧ K.RdsLp w' w'.heap.size A2 (K.tab z1) ∧ RowKit.Below W.heap.size W w') :=
    Lib.hid (fun W hW => K.table_is z1 a1 c1 w.heap.size W hW.size (rd1.below hW) wf1 (by omega))
  have hk : K.chk (K.tab z1) = 0 := K.chk_sorted (by have := K.tlen_le z1; rw [K.tab_len]; omega) (K.tab_sorted z1)
  have HK : RowKit.Hid (∀ A c W, K.RdsLp W W.heap.size A (K.tab z1) → Calls Try.prog 35 #[.slice A (K.tab z1).length c] W fun e w' => e = .returned (.int .i64 0) ∧ RowKit.Below W.heap.size W w') :=
    Lib.hid (fun A c W hW => by
      have h := K.check_any (K.tab z1) A c W.heap.size W (Nat.le_refl _) hW (by have := K.tlen_le z1; rw [K.tab_len]; omega)
      rwa [hk] at h)
  have B0 := K.Bl.refl w
  clear hk cp0 cp1 nz0 nz1 rd0 rd1 ok0 wf1 r1
  generalize K.chk z0 = e0 at *
  generalize (K.tab z1).length = tl at *
  generalize z0.length = zl at *
  generalize z1.length = yl at *
  go_enter Try.func8, Try.ntmps8
  go_wp2_with (first
    | (go_at_call 35; with_reducible refine HC.out.mono ?_; rintro e w2 ⟨rfl, hB⟩; have B2 := B0.call hB; clear hB)
    | (go_at_call 36; refine (HR.out _ B2.out).mono ?_; rintro e w3 ⟨rfl, hB⟩; have B3 := B2.call hB; clear hB)
    | (go_at_call 28; refine (HT.out _ B3.out).mono ?_; rintro e w4 ⟨A2, c2, rfl, hR, hB⟩; have B4 := B3.call hB; have HR4 := Lib.hid hR; clear hB hR)
    | (go_at_call 35; with_reducible refine (HK.out _ _ _ HR4.out).mono ?_; rintro e w5 ⟨rfl, hB⟩; have B5 := B4.call hB; clear hB)
    | (go_at_call 19; refine (HL.out _).mono ?_; rintro e w6 ⟨rfl, hB⟩; have B6 := B5.call hB; clear hB))
  go_ret
  exact ⟨rfl, B6.out⟩

set_option maxRecDepth 100000 in
theorem lifted (os : Os) (started : os.Started) (H0 : Type) (enc : TypeId × Value → H0) :
    ReturnsInHanded {} Try.checked os 8 .any (Rows.clockChecksSpec.pre6 enc Try.prog Try.f8 Rows.clockChecksRow.domain false) (Rows.clockChecksSpec.post enc Try.prog Try.f8 false true false false) := by
  refine returnsInHanded_of_change_sized (C := Try.checked) Go.Proofs.Ytlmbpbhdbgadjaa.O.own started (by kernel_rfl) Try.func8
    (ChangeSpec.witness6 (enc := enc) (C := Try.checked) false ⟨#[], #[.slice none 0 0, .slice none 0 0], []⟩ 8 (by kernel_rfl) (by kernel_rfl) (by kernel_rfl) (by kernel_rfl)) ?_
  intro W base args ds gs before hval0 hW hcnd hsz0 _
  have hsz : (DataW.weightsEach Try.prog (Try.f8.params.toList ++ Rows.clockChecksSpec.plain.varTypes Try.prog) (ds ++ gs)).all (· ≤ reachBytes) = true := hsz0
  clear hsz0
  have hval : ∀ (j : Nat) t v, Try.f8.params[j]? = some t → args[j]? = some v → Value.okWide Try.prog W .any base t v := hval0
  have hW' := hW
  obtain ⟨p, q, hA0, hV, rfl, hfz, hnd⟩ := hW
  have hA : DataW.TrodAll enc Try.prog W 0 (fun _ => true) true Try.f8.params.toList args.toList ds p := hA0
  rw [Try.params8] at hA hval hsz
  obtain ⟨v0, vs0, d0, ds0, p0, q0, hargs, rfl, rfl, h0, r0⟩ := trodAll_cons hA
  obtain ⟨v1, vs1, d1, ds1, p1, q1, rfl, rfl, rfl, h1, r1⟩ := trodAll_cons r0
  obtain ⟨rfl, rfl, rfl⟩ := trodAll_nil r1
  obtain rfl : args = #[v0, v1] := by cases args; simp_all
  obtain ⟨rfl, rfl⟩ := trodVars_none hV
  obtain ⟨a0, n0, c0, rfl⟩ := okWide_slice Try.underlying43 (hval 0 43 v0 rfl rfl)
  have k0 := h0
  have lt0 : ∀ x ∈ p0, x.block < W.heap.size := by obtain ⟨m, hm⟩ := k0; exact DataW.trod_lt m _ _ _ hm
  obtain ⟨z0, l0, cp0, cq0, nz0, rd0, ok0⟩ := Go.Proofs.Ytlmbpbhdbgadjaa.K.open_Lps h0
  obtain ⟨a1, n1, c1, rfl⟩ := okWide_slice Try.underlying42 (hval 1 42 v1 rfl rfl)
  have k1 := h1
  have lt1 : ∀ x ∈ p1, x.block < W.heap.size := by obtain ⟨m, hm⟩ := k1; exact DataW.trod_lt m _ _ _ hm
  obtain ⟨z1, l1, cp1, cq1, nz1, rd1, wf1, bj1⟩ := Go.Proofs.Ytlmbpbhdbgadjaa.O.open_isT Try.underlying42 Try.underlying3 (by kernel_rfl) h1
  have el1 := Go.Proofs.Ytlmbpbhdbgadjaa.O.open_el Try.underlying42 Try.underlying3 (by kernel_rfl) k1
  clear hA0 hval0
  have r1 : z1.length * 8 ≤ 140737488351232 := by
    rcases el1 with h | ⟨es, sp, h, hle⟩
    · omega
    · have hr := sized_slice hsz (j := 1) (t := 42) (e := 3) (elems := es) (spare := sp) rfl (by simp [h]) Try.underlying42
      rw [show Try.prog.bytesOf 3 = 8 from by kernel_rfl] at hr
      simp only [reachBytes] at hr
      omega
  refine (walk a0 n0 c0 z0 a1 n1 c1 z1 W l0 ⟨cp0, cq0⟩ nz0 rd0 ok0 l1 ⟨cp1, cq1⟩ nz1 rd1 wf1 r1).mono fun e W' ⟨he, bel⟩ => ?_
  subst he
  exact ⟨_, rfl, _, _, _, [], _, [], hW', trodAll_mk1 (shut_bool Try.underlying4 _), (trodAll_cons_mk (Below.trod Go.Proofs.Ytlmbpbhdbgadjaa.O.laidOut (by kernel_rfl) (of_decide_eq_true (by kernel_rfl)) k0 bel lt0) (trodAll_cons_mk (Below.trod Go.Proofs.Ytlmbpbhdbgadjaa.O.laidOut (by kernel_rfl) (of_decide_eq_true (by kernel_rfl)) k1 bel lt1) trodAll_mk0)), rfl, bel.frame _, fun h => by cases h⟩

/-- ████ THE STATEMENT ████ -/
theorem proved : Rows.ClockChecksSaid :=
  OpenClaim.holds_of_wide 8 Try.f8 rfl rfl rfl rfl rfl rfl rfl ⟨rfl, rfl, rfl, rfl, rfl⟩ rfl rfl rfl rfl rfl (by kernel_rfl) Try.func8 (by kernel_rfl)
    (of_decide_eq_true (by kernel_rfl)) (by unfold Func.isWrapper; first | (rw [if_pos (by decide +kernel)]; kernel_rfl) | (rw [if_neg (by decide +kernel)]; exact ⟨rfl, rfl⟩))
    (fun os started H0 enc _ => lifted os started H0 enc)
end Go.Proofs.Ytlmbpbhdbgadjaa.clockChecks
