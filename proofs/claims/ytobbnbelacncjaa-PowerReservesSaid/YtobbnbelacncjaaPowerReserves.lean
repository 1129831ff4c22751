/-
  For all numbers, craft, ticks and powers, PowerReserves returns true: Reserve over the table that is made from the numbers is the need.
-/
import Derived.Test.YtobbnbelacncjaaPwTb2
import Derived.Test.YtobbnbelacncjaaPwR2
import Derived.Test.YtobbnbelacncjaaPwRes
import Derived.Test.YtobbnbelacncjaaPwBat
import Derived.Deep.DeepCutAuto
import Derived.Deep.RegionHeld3
import Derived.Deep.LoopGhost
import Derived.Deep.QuietTactic
namespace Go.Proofs.Ytobbnbelacncjaa.powerReserves
open Go.ChangeShapes Go.WideShapes Go.ChangeAt Go.RowKit
open Go.ChangeMaps (open_string shut_string)
set_option linter.unusedVariables false

set_option maxRecDepth 100000 in
set_option maxHeartbeats 4000000 in
theorem walk (a0 : Option Addr) (n0 c0 : Nat) (z0 : List Int) (a1 : Int) (a2 : Int) (a3 : Int) (a4 : Int) (w : World) (l0 : z0.length = n0) (cp0 : n0 ≤ c0 ∧ c0 ≤ maxLen) (nz0 : a0 = none → c0 = 0) (rd0 : H.RdI w w.heap.size .u16 a0 z0) (wf0 : ∀ n ∈ z0, (Lit.int .u16 n).wf = true) (r0 : z0.length * 2 ≤ 140737488351232) (w1 : (Lit.int .u8 a1).wf = true) (w2 : (Lit.int .u16 a2).wf = true) (w3 : (Lit.int .u16 a3).wf = true) (w4 : (Lit.int .u16 a4).wf = true) :
    Calls Try.prog 6 #[.slice a0 n0 c0, .int .u8 a1, .int .u16 a2, .int .u16 a3, .int .u16 a4] w fun e w' => e = .returned (.bool true) ∧ Below w.heap.size w w' := by
  subst l0
  have v1 := Pw.u8_bd w1
  have v2 := Pw.u16_bd w2
  have v3 := Pw.u16_bd w3
  have v4 := Pw.u16_bd w4
  have hz : ∀ n ∈ z0, 0 ≤ n ∧ n < 65536 := fun n hn => Pw.u16_bd (wf0 n hn)
  have hz0 : ∀ n ∈ z0, 0 ≤ n := fun n hn => (hz n hn).1
  have HL := Lib.hid (fun W => Pw.lives_any W)
  have HT := Lib.hid (Pw.rtable2_any z0 a0 c0 w.heap.size w (Nat.le_refl _) (by omega) hz rd0)
  have hall := Pw.tab_all hz0
  have htok := Pw.tab_tok hz0
  have hsrt := Pw.tab_srt hz0
  have t1 : a2.tmod 1101 = a2 % 1101 := Int.tmod_eq_emod_of_nonneg v2.1
  have t2 : a1.tmod 3 = a1 % 3 := Int.tmod_eq_emod_of_nonneg v1.1
  have hk : 0 ≤ a2 % 1101 ∧ a2 % 1101 < 1101 := by omega
  have hc : 0 ≤ a1 % 3 ∧ a1 % 3 < 3 := by omega
  generalize Pw.tabL z0 = T at *
  have HP : RowKit.Hid (∀ cr W A c, Q.RdsWn W W.heap.size A T → Calls Try.prog 24 #[.slice A T.length c, .int .i64 cr, .int .i64 (a2 % 1101), .int .i64 a3, .int .i64 a4] W fun e w' => e = .returned (.int .i64 (Pw.need T cr a3 a4 (a2 % 1101))) ∧ RowKit.Below W.heap.size W w') := Lib.hid (fun cr W A c hr => Pw.preserve_any T A c W.heap.size cr (a2 % 1101) a3 a4 W (Nat.le_refl _) (by omega) (by omega) (by omega) (by omega) htok hsrt hr)
  have HR : RowKit.Hid (∀ cr W A c, Q.RdsWn W W.heap.size A T → Calls Try.prog 25 #[.slice A T.length c, .int .i64 cr, .int .i64 (a2 % 1101), .int .i64 a3, .int .i64 a4] W fun e w' => e = .returned (.int .i64 (Pw.need T cr a3 a4 (a2 % 1101))) ∧ RowKit.Below W.heap.size W w') := Lib.hid (fun cr W A c hr => Pw.rreserve_any T A c W.heap.size cr (a2 % 1101) a3 a4 W (Nat.le_refl _) (by omega) (fun x hx => by have := hall.1 x hx; omega) (by omega) (by omega) (by omega) hr)
  have HLE := hall.2.2
  clear cp0 nz0 rd0 wf0 r0 hall htok hsrt hz hz0 w1 w2 w3 w4
  generalize z0.length = zl at *
  generalize T.length = tl at *
  generalize hkk : a2 % 1101 = k at *
  generalize hcc : a1 % 3 = cr at *
  go_enter Try.func6, Try.ntmps6
  go_wp2_with (first
    | (go_at_call 23; refine HT.out.mono ?_; rintro e w5 ⟨A5, c5, rfl, r5, hB⟩; have R5 := Lib.hid r5; have B5 := Lib.hid hB; clear r5 hB)
    | (go_at_call 24; with_reducible refine (HP.out _ _ _ _ R5.out).mono ?_; rintro e w6 ⟨rfl, hB⟩; have R6 := Lib.hid ((R5.out.below hB).more hB.size); have B6 := Lib.hid (Pw.bt B5.out hB); clear hB)
    | (go_at_call 25; with_reducible refine (HR.out _ _ _ _ R6.out).mono ?_; rintro e w7 ⟨rfl, hB⟩; have R7 := Lib.hid ((R6.out.below hB).more hB.size); have B7 := Lib.hid (Pw.bt B6.out hB); clear R5 R6 hB)
    | (go_at_call 24; with_reducible refine (HP.out _ _ _ _ R7.out).mono ?_; rintro e w8 ⟨rfl, hB⟩; have R8 := Lib.hid ((R7.out.below hB).more hB.size); have B8 := Lib.hid (Pw.bt B7.out hB); clear hB)
    | (go_at_call 25; with_reducible refine (HR.out _ _ _ _ R8.out).mono ?_; rintro e w9 ⟨rfl, hB⟩; have B9 := Lib.hid (Pw.bt B8.out hB); clear hB)
    | (go_at_call 12; with_reducible refine (HL.out _).mono ?_; rintro e w10 ⟨rfl, hB10⟩))
  go_ret
  exact ⟨rfl, Pw.bt B9.out hB10⟩

set_option maxRecDepth 100000 in
theorem lifted (os : Os) (started : os.Started) (H0 : Type) (enc : TypeId × Value → H0) :
    ReturnsInHanded {} Try.checked os 6 .any (Rows.powerReservesSpec.pre6 enc Try.prog Try.f6 Rows.powerReservesRow.domain false) (Rows.powerReservesSpec.post enc Try.prog Try.f6 false true false false) := by
  refine returnsInHanded_of_change_sized (C := Try.checked) Go.Proofs.Ytobbnbelacncjaa.O.own started (by kernel_rfl) Try.func6
    (ChangeSpec.witness6 (enc := enc) (C := Try.checked) false ⟨#[], #[.slice none 0 0, .int .u8 0, .int .u16 0, .int .u16 0, .int .u16 0], []⟩ 8 (by kernel_rfl) (by kernel_rfl) (by kernel_rfl) (by kernel_rfl)) ?_
  intro W base args ds gs before hval0 hW hcnd hsz0 _
  have hsz : (DataW.weightsEach Try.prog (Try.f6.params.toList ++ Rows.powerReservesSpec.plain.varTypes Try.prog) (ds ++ gs)).all (· ≤ reachBytes) = true := hsz0
  clear hsz0
  have hval : ∀ (j : Nat) t v, Try.f6.params[j]? = some t → args[j]? = some v → Value.okWide Try.prog W .any base t v := hval0
  have hW' := hW
  obtain ⟨p, q, hA0, hV, rfl, hfz, hnd⟩ := hW
  have hA : DataW.TrodAll enc Try.prog W 0 (fun _ => true) true Try.f6.params.toList args.toList ds p := hA0
  rw [Try.params6] at hA hval hsz
  obtain ⟨v0, vs0, d0, ds0, p0, q0, hargs, rfl, rfl, h0, r0⟩ := trodAll_cons hA
  obtain ⟨v1, vs1, d1, ds1, p1, q1, rfl, rfl, rfl, h1, r1⟩ := trodAll_cons r0
  obtain ⟨v2, vs2, d2, ds2, p2, q2, rfl, rfl, rfl, h2, r2⟩ := trodAll_cons r1
  obtain ⟨v3, vs3, d3, ds3, p3, q3, rfl, rfl, rfl, h3, r3⟩ := trodAll_cons r2
  obtain ⟨v4, vs4, d4, ds4, p4, q4, rfl, rfl, rfl, h4, r4⟩ := trodAll_cons r3
  obtain ⟨rfl, rfl, rfl⟩ := trodAll_nil r4
  obtain rfl : args = #[v0, v1, v2, v3, v4] := by cases args; simp_all
  obtain ⟨rfl, rfl⟩ := trodVars_none hV
  obtain ⟨a0, n0, c0, rfl⟩ := okWide_slice Try.underlying44 (hval 0 44 v0 rfl rfl)
  have k0 := h0
  have lt0 : ∀ x ∈ p0, x.block < W.heap.size := by obtain ⟨m, hm⟩ := k0; exact DataW.trod_lt m _ _ _ hm
  obtain ⟨z0, l0, cp0, cq0, nz0, rd0, wf0, bj0⟩ := Go.Proofs.Ytobbnbelacncjaa.O.open_isT Try.underlying44 Try.underlying38 (by kernel_rfl) h0
  have el0 := Go.Proofs.Ytobbnbelacncjaa.O.open_el Try.underlying44 Try.underlying38 (by kernel_rfl) k0
  obtain ⟨a1, rfl, rfl, rfl, w1⟩ := open_int Try.underlying5 (hval 1 5 v1 rfl rfl) h1
  obtain ⟨a2, rfl, rfl, rfl, w2⟩ := open_int Try.underlying38 (hval 2 38 v2 rfl rfl) h2
  obtain ⟨a3, rfl, rfl, rfl, w3⟩ := open_int Try.underlying38 (hval 3 38 v3 rfl rfl) h3
  obtain ⟨a4, rfl, rfl, rfl, w4⟩ := open_int Try.underlying38 (hval 4 38 v4 rfl rfl) h4
  clear hA0 hval0
  have r0 : z0.length * 2 ≤ 140737488351232 := by
    rcases el0 with h | ⟨es, sp, h, hle⟩
    · omega
    · have hr := sized_slice hsz (j := 0) (t := 44) (e := 38) (elems := es) (spare := sp) rfl (by simp [h]) Try.underlying44
      rw [show Try.prog.bytesOf 38 = 2 from by kernel_rfl] at hr
      simp only [reachBytes] at hr
      omega
  refine (walk a0 n0 c0 z0 a1 a2 a3 a4 W l0 ⟨cp0, cq0⟩ nz0 rd0 wf0 r0 w1 w2 w3 w4).mono fun e W' ⟨he, bel⟩ => ?_
  subst he
  exact ⟨_, rfl, _, _, _, [], _, [], hW', trodAll_mk1 (shut_bool Try.underlying4 _), (trodAll_cons_mk (Below.trod Go.Proofs.Ytobbnbelacncjaa.O.laidOut (by kernel_rfl) (of_decide_eq_true (by kernel_rfl)) k0 bel lt0) (trodAll_cons_mk (shut_int Try.underlying5 w1) (trodAll_cons_mk (shut_int Try.underlying38 w2) (trodAll_cons_mk (shut_int Try.underlying38 w3) (trodAll_cons_mk (shut_int Try.underlying38 w4) trodAll_mk0))))), rfl, bel.frame _, fun h => by cases h⟩

/-- ████ THE STATEMENT ████ -/
theorem proved : Rows.PowerReservesSaid :=
  OpenClaim.holds_of_wide 6 Try.f6 rfl rfl rfl rfl rfl rfl rfl ⟨rfl, rfl, rfl, rfl, rfl⟩ rfl rfl rfl rfl rfl (by kernel_rfl) Try.func6 (by kernel_rfl)
    (of_decide_eq_true (by kernel_rfl)) (by unfold Func.isWrapper; first | (rw [if_pos (by decide +kernel)]; kernel_rfl) | (rw [if_neg (by decide +kernel)]; exact ⟨rfl, rfl⟩))
    (fun os started H0 enc _ => lifted os started H0 enc)
end Go.Proofs.Ytobbnbelacncjaa.powerReserves
