/-
  For all cases, PowerLeastCharge returns true: the need is the least charge with which a battery survives until the end.
-/
import Derived.Test.YtobbnbelacncjaaPwMth
import Derived.Test.YtobbnbelacncjaaPwMd3
import Derived.Test.YtobbnbelacncjaaPwSrv
import Derived.Test.YtobbnbelacncjaaPwRes
import Derived.Test.YtobbnbelacncjaaPwBat
import Derived.Deep.DeepCutAuto
import Derived.Deep.RegionHeld3
import Derived.Deep.LoopGhost
import Derived.Deep.QuietTactic
namespace Go.Proofs.Ytobbnbelacncjaa.powerLeastCharge
open Go.ChangeShapes Go.WideShapes Go.ChangeAt Go.RowKit
open Go.ChangeMaps (open_string shut_string)
set_option linter.unusedVariables false

set_option maxRecDepth 100000 in
set_option maxHeartbeats 8000000 in
theorem walk (x0 : Pw.Bt) (a0 : Option Addr) (n0 c0 : Nat) (z0 : List Int) (cr0 fr0 un0 es0 su0 : Int) (w : World) (ok0 : x0.Ok) (l0 : z0.length = n0) (cp0 : n0 ≤ c0 ∧ c0 ≤ maxLen) (rd0 : H.RdI w w.heap.size .u16 a0 z0) (wf0 : ∀ n ∈ z0, (Lit.int .u16 n).wf = true) (wa0 : 0 ≤ cr0 ∧ cr0 < 256) (wb0 : 0 ≤ fr0 ∧ fr0 < 65536) (wc0 : 0 ≤ un0 ∧ un0 < 65536) (wd0 : 0 ≤ es0 ∧ es0 < 65536) (we0 : 0 ≤ su0 ∧ su0 < 65536) :
    Calls Try.prog 7 #[Pw.caV x0 a0 n0 c0 cr0 fr0 un0 es0 su0] w fun e w' => e = .returned (.bool true) ∧ Below w.heap.size w w' := by
  subst l0
  have hz : ∀ n ∈ z0, 0 ≤ n ∧ n < 65536 := fun n hn => Pw.u16_bd (wf0 n hn)
  have hz0 : ∀ n ∈ z0, 0 ≤ n := fun n hn => (hz n hn).1
  have HL := Lib.hid (fun W => Pw.lives_any W)
  have HMD : RowKit.Hid (∀ W, RowKit.Below w.heap.size w W → Calls Try.prog 26 #[Pw.caV x0 a0 z0.length c0 cr0 fr0 un0 es0 su0] W fun e w' => ∃ A1 c1, e = .returned (.tuple #[(Pw.madeB x0 200000).v, .slice A1 (Pw.tabL z0).length c1, .int .i64 (cr0 % 3), .int .i64 (fr0 % 1101), .int .i64 (un0 % 1101)]) ∧ Q.RdsWn w' w'.heap.size A1 (Pw.tabL z0) ∧ Below W.heap.size W w') := Lib.hid (fun W hW => Pw.made_any x0 a0 c0 z0 cr0 fr0 un0 es0 su0 W ok0 (by have h := cp0.1; have h2 := cp0.2; unfold maxLen at h2; omega) hz ((rd0.below hW).more hW.size) wa0 wb0 wc0 wd0 we0)
  have hall := Pw.tab_all hz0
  have htok := Pw.tab_tok hz0
  have hsrt := Pw.tab_srt hz0
  have hend := Pw.tab_end_le hz0
  have hf : 0 ≤ fr0 % 1101 ∧ fr0 % 1101 ≤ 1100 := by omega
  generalize Pw.tabL z0 = T at *
  generalize fr0 % 1101 = f at *
  generalize cr0 % 3 = cr at *
  generalize un0 % 1101 = u at *
  have HLE := hall.2.2
  have HE := Lib.hid (fun W A c (hr : Q.RdsWn W W.heap.size A T) => Pw.rend_any T A c W.heap.size W (Nat.le_refl _) (by omega) hr)
  have HP := Lib.hid (fun W A c (hr : Q.RdsWn W W.heap.size A T) => Pw.preserve_any T A c W.heap.size cr f es0 su0 W (Nat.le_refl _) (by omega) (by omega) (by omega) (by omega) htok hsrt hr)
  have HGR := Lib.hid (fun W A c (hr : Q.RdsWn W W.heap.size A T) => Pw.great_any T A c W.heap.size cr f es0 su0 W (Nat.le_refl _) (by omega) (by omega) (by omega) (by omega) htok hsrt hr)
  have HSV := Lib.hid (fun (b : Pw.Bt) (hb : b.cap ≤ 2147483647 ∧ 0 ≤ b.chg ∧ b.chg ≤ b.cap) W A c (hr : Q.RdsWn W W.heap.size A T) => Pw.psurv_any b T A c W.heap.size cr f (Pw.endT T 0) es0 su0 W (Nat.le_refl _) (by omega) hb (by omega) (by omega) (by omega) (by omega) htok hsrt hr)
  have hnb := Pw.need_bd2 (T := T) (a := cr) (e := es0) (sun := su0) (c := 65535) (k := f) (by omega) (by omega) hf.1 hend.2
  have hgb := Pw.gr_bd2 (T := T) (a := cr) (e := es0) (sun := su0) (c := 65535) (f := f) (by omega) (by omega) hf.1 hend.2
  have HNE := Lib.hid (fun (h : Pw.endT T 0 ≤ f) => Pw.need_end T cr es0 su0 h)
  have HOK := Lib.hid (fun (h : f < Pw.endT T 0) => Pw.least_ok T cr (e := es0) (sun := su0) (f := f) we0.1 h)
  have HNO := Lib.hid (fun (h : f < Pw.endT T 0) (h2 : Pw.need T cr es0 su0 f ≠ 0) => Pw.least_no T cr (e := es0) (sun := su0) (f := f) (cap := max (Pw.need T cr es0 su0 f) (Pw.gr T cr es0 su0 f + es0)) wd0.1 (by omega) h h2 (by omega))
  obtain ⟨⟨mc, mg, mr⟩, hm⟩ : ∃ m, Pw.madeB x0 200000 = m := ⟨_, rfl⟩
  rw [hm] at HMD
  obtain ⟨xc, xg, xr⟩ := x0
  dsimp only [Pw.Bt.v, Pw.caV] at *
  clear hm cp0 rd0 ok0 wf0 hall htok hsrt hz hz0
  generalize z0.length = zl at *
  generalize T.length = tl at *
  generalize Pw.need T cr es0 su0 f = nf at *
  generalize Pw.gr T cr es0 su0 f = G at *
  obtain ⟨W1, hW1⟩ : ∃ W1, W1 = w.alloc (Obj.cells #[.int .i64 xc, .int .i64 xg, .int .i64 xr, .slice a0 zl c0, .int .u8 cr0, .int .u16 fr0, .int .u16 un0, .int .u16 es0, .int .u16 su0] 50) := ⟨_, rfl⟩
  have q7 : W1.cell? ⟨w.heap.size, 7, none⟩ = some (.int .u16 es0) := by rw [hW1]; exact Pw.cell_top _ _ _ _
  have q8 : W1.cell? ⟨w.heap.size, 8, none⟩ = some (.int .u16 su0) := by rw [hW1]; exact Pw.cell_top _ _ _ _
  have HB1 : RowKit.Hid (RowKit.Below w.heap.size w W1) := Lib.hid (by rw [hW1]; exact Pw.bel1 w _)
  have N1 := Lib.hid (And.intro q7 q8)
  have HW1 := Lib.hid hW1
  have HWE : RowKit.Hid (IntKind.i64.wrap es0 = es0) := Lib.hid (IntWalk.i64_in _ (by omega))
  have HWS : RowKit.Hid (IntKind.i64.wrap su0 = su0) := Lib.hid (IntWalk.i64_in _ (by omega))
  clear hW1 q7 q8
  go_enter Try.func7, Try.ntmps7
  go_upto_region 2 with (go_at_call 26; rw [← HW1.out]; with_reducible refine (HMD.out _ HB1.out).mono ?_; rintro e w2 ⟨A2, c2, rfl, r2, hB⟩; have R2 := Lib.hid r2; have N2 := Lib.hid (And.intro (Pw.below_cell hB N1.out.1) (Pw.below_cell hB N1.out.2)); have B2 := Lib.hid (Pw.bt HB1.out hB); clear r2 hB)
  obtain ⟨W3, hW3⟩ : ∃ W3, W3 = w2.alloc (Obj.cells #[.int .i64 mc, .int .i64 mg, .int .i64 mr] 23) := ⟨_, rfl⟩
  have b3 : RowKit.Below w2.heap.size w2 W3 := by rw [hW3]; exact Pw.bel1 _ _
  rw [← hW3]
  have hB := Pw.bt b3 (Pw.below_drew W3)
  have N3 := Lib.hid (And.intro (Pw.below_cell hB N2.out.1) (Pw.below_cell hB N2.out.2))
  have R3 := Lib.hid ((R2.out.below hB).more hB.size)
  have B3 := Lib.hid (Pw.bt B2.out hB)
  clear hW3 b3 hB
  go_region_held3 (fun W => W.cell? ⟨w.heap.size, 7, none⟩ = some (.int .u16 es0) ∧ W.cell? ⟨w.heap.size, 8, none⟩ = some (.int .u16 su0)) (with_reducible (first | exact N3.out | exact N4.out))
    ((go_at_call 27; with_reducible refine (HE.out _ _ _ R3.out).mono ?_; rintro e w4 ⟨rfl, hB⟩; have N4 := Lib.hid (And.intro (Pw.below_cell hB N3.out.1) (Pw.below_cell hB N3.out.2)); have R4 := Lib.hid ((R3.out.below hB).more hB.size); have B4 := Lib.hid (Pw.bt B3.out hB); clear hB))
  rw [HWE.out, HWS.out]
  by_cases hfe : Pw.endT T 0 ≤ f
  · have hn0 := HNE.out hfe
    clear HOK HNO HSV HGR
    generalize Pw.endT T 0 = E at *
    subst hn0
    go_wp2_with (first
      | (go_at_call 24; with_reducible refine (HP.out _ _ _ R4.out).mono ?_; rintro e w5 ⟨rfl, hB⟩; have R5 := Lib.hid ((R4.out.below hB).more hB.size); have B5 := Lib.hid (Pw.bt B4.out hB); clear hB)
      | (go_at_call 12; with_reducible refine (HL.out _).mono ?_; rintro e w12 ⟨rfl, hB12⟩))
    go_ret
    exact ⟨rfl, Pw.bt B5.out hB12⟩
  · have hok := HOK.out (by omega)
    have hno := HNO.out (by omega)
    have hcb : max nf (G + es0) ≤ 2147483647 ∧ nf ≤ max nf (G + es0) := by omega
    have HS1 := Lib.hid (fun W A c hr => HSV.out ⟨max nf (G + es0), nf, 0⟩ ⟨hcb.1, hnb.1, hcb.2⟩ W A c hr)
    have HS2 := Lib.hid (fun (h : nf ≠ 0) W A c hr => HSV.out ⟨max nf (G + es0), nf - 1, 0⟩ ⟨hcb.1, by dsimp only; omega, by dsimp only; omega⟩ W A c hr)
    dsimp only at HS1 HS2
    rw [hok] at HS1
    obtain ⟨cp, hcp⟩ : ∃ cp, max nf (G + es0) = cp := ⟨_, rfl⟩
    have hcp2 : (if nf < G + es0 then G + es0 else nf) = cp := by rw [← hcp]; split <;> omega
    rw [hcp] at HS1 HS2 hcb hno
    by_cases hn : nf = 0
    · clear HS2 hno
      generalize Pw.endT T 0 = E at *
      subst hn
      go_wp2_with (first
        | (go_at_call 24; with_reducible refine (HP.out _ _ _ R4.out).mono ?_; rintro e w5 ⟨rfl, hB⟩; have R5 := Lib.hid ((R4.out.below hB).more hB.size); have B5 := Lib.hid (Pw.bt B4.out hB); clear hB)
        | (go_at_call 28; with_reducible refine (HGR.out _ _ _ R5.out).mono ?_; rintro e w6 ⟨rfl, hB⟩; have R6 := Lib.hid ((R5.out.below hB).more hB.size); have B6 := Lib.hid (Pw.bt B5.out hB); clear hB)
        | (go_at_call 29; with_reducible refine (HS1.out _ _ _ R6.out).mono ?_; rintro e w7 ⟨rfl, hB⟩; have R7 := Lib.hid ((R6.out.below hB).more hB.size); have B7 := Lib.hid (Pw.bt B6.out hB); clear hB)
        | (go_at_call 12; with_reducible refine (HL.out _).mono ?_; rintro e w12 ⟨rfl, hB12⟩))
      go_ret
      exact ⟨rfl, Pw.bt B7.out hB12⟩
    · replace HS2 := HS2.out hn
      rw [hno hn] at HS2
      replace HS2 := Lib.hid HS2
      have hn2 : (nf == 0) = false := by simpa using hn
      clear hno
      generalize Pw.endT T 0 = E at *
      go_wp2_with (first
        | (go_at_call 24; with_reducible refine (HP.out _ _ _ R4.out).mono ?_; rintro e w5 ⟨rfl, hB⟩; have R5 := Lib.hid ((R4.out.below hB).more hB.size); have B5 := Lib.hid (Pw.bt B4.out hB); clear hB)
        | (go_at_call 28; with_reducible refine (HGR.out _ _ _ R5.out).mono ?_; rintro e w6 ⟨rfl, hB⟩; have R6 := Lib.hid ((R5.out.below hB).more hB.size); have B6 := Lib.hid (Pw.bt B5.out hB); clear hB)
        | (go_at_call 29; with_reducible refine (HS1.out _ _ _ R6.out).mono ?_; rintro e w7 ⟨rfl, hB⟩; have R7 := Lib.hid ((R6.out.below hB).more hB.size); have B7 := Lib.hid (Pw.bt B6.out hB); clear hB)
        | (go_at_call 29; with_reducible refine (HS2.out _ _ _ R7.out).mono ?_; rintro e w8 ⟨rfl, hB⟩; have B8 := Lib.hid (Pw.bt B7.out hB); clear hB)
        | (go_at_call 12; with_reducible refine (HL.out _).mono ?_; rintro e w12 ⟨rfl, hB12⟩))
      go_ret
      exact ⟨rfl, Pw.bt B8.out hB12⟩

set_option maxRecDepth 100000 in
theorem lifted (os : Os) (started : os.Started) (H0 : Type) (enc : TypeId × Value → H0) :
    ReturnsInHanded {} Try.checked os 7 .any (Rows.powerLeastChargeSpec.pre6 enc Try.prog Try.f7 Rows.powerLeastChargeRow.domain false) (Rows.powerLeastChargeSpec.post enc Try.prog Try.f7 false true false false) := by
  refine returnsInHanded_of_change_sized (C := Try.checked) Go.Proofs.Ytobbnbelacncjaa.O.own started (by kernel_rfl) Try.func7
    (ChangeSpec.witness6 (enc := enc) (C := Try.checked) false ⟨#[], #[.agg #[.int .i64 0, .int .i64 0, .int .i64 0, .slice none 0 0, .int .u8 0, .int .u16 0, .int .u16 0, .int .u16 0, .int .u16 0]], []⟩ 8 (by kernel_rfl) (by kernel_rfl) (by kernel_rfl) (by kernel_rfl)) ?_
  intro W base args ds gs before hval0 hW hcnd hsz0 _
  have hsz : (DataW.weightsEach Try.prog (Try.f7.params.toList ++ Rows.powerLeastChargeSpec.plain.varTypes Try.prog) (ds ++ gs)).all (· ≤ reachBytes) = true := hsz0
  clear hsz0
  have hval : ∀ (j : Nat) t v, Try.f7.params[j]? = some t → args[j]? = some v → Value.okWide Try.prog W .any base t v := hval0
  have hW' := hW
  obtain ⟨p, q, hA0, hV, rfl, hfz, hnd⟩ := hW
  have hA : DataW.TrodAll enc Try.prog W 0 (fun _ => true) true Try.f7.params.toList args.toList ds p := hA0
  rw [Try.params7] at hA hval hsz
  obtain ⟨v0, vs0, d0, ds0, p0, q0, hargs, rfl, rfl, h0, r0⟩ := trodAll_cons hA
  obtain ⟨rfl, rfl, rfl⟩ := trodAll_nil r0
  obtain rfl : args = #[v0] := by cases args; simp_all
  obtain ⟨rfl, rfl⟩ := trodVars_none hV
  have k0 := h0
  have lt0 : ∀ x ∈ p0, x.block < W.heap.size := by obtain ⟨m, hm⟩ := k0; exact DataW.trod_lt m _ _ _ hm
  obtain ⟨x0, a0, n0, c0, z0, cr0, fr0, un0, es0, su0, rfl, ok0, l0, cp0, rd0, wf0, wa0, wb0, wc0, wd0, we0⟩ := Go.Proofs.Ytobbnbelacncjaa.Pw.open_Ca (hval 0 50 v0 rfl rfl) h0
  clear hA0 hval0
  refine (walk x0 a0 n0 c0 z0 cr0 fr0 un0 es0 su0 W ok0 l0 cp0 rd0 wf0 wa0 wb0 wc0 wd0 we0).mono fun e W' ⟨he, bel⟩ => ?_
  subst he
  exact ⟨_, rfl, _, _, _, [], _, [], hW', trodAll_mk1 (shut_bool Try.underlying4 _), (trodAll_cons_mk (Below.trod Go.Proofs.Ytobbnbelacncjaa.O.laidOut (by kernel_rfl) (of_decide_eq_true (by kernel_rfl)) k0 bel lt0) trodAll_mk0), rfl, bel.frame _, fun h => by cases h⟩

/-- ████ THE STATEMENT ████ -/
theorem proved : Rows.PowerLeastChargeSaid :=
  OpenClaim.holds_of_wide 7 Try.f7 rfl rfl rfl rfl rfl rfl rfl ⟨rfl, rfl, rfl, rfl, rfl⟩ rfl rfl rfl rfl rfl (by kernel_rfl) Try.func7 (by kernel_rfl)
    (of_decide_eq_true (by kernel_rfl)) (by unfold Func.isWrapper; first | (rw [if_pos (by decide +kernel)]; kernel_rfl) | (rw [if_neg (by decide +kernel)]; exact ⟨rfl, rfl⟩))
    (fun os started H0 enc _ => lifted os started H0 enc)
end Go.Proofs.Ytobbnbelacncjaa.powerLeastCharge
