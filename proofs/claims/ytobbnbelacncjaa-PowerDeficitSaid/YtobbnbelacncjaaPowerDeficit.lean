/-
  For all numbers, craft, ticks and powers, PowerDeficit returns true: the need is the greatest deficit of all periods from the tick on until the end, with the eclipsed ticks that orbit.Ticks counts.
-/
import Derived.Test.YtobbnbelacncjaaPwTb2
import Derived.Test.YtobbnbelacncjaaPwDef
import Derived.Test.YtobbnbelacncjaaPwR2
import Derived.Test.YtobbnbelacncjaaPwRes
import Derived.Test.YtobbnbelacncjaaPwBat
import Derived.Deep.DeepCutAuto
import Derived.Deep.RegionHeld3
import Derived.Deep.LoopGhost
import Derived.Deep.QuietTactic
namespace Go.Proofs.Ytobbnbelacncjaa.powerDeficit
open Go.ChangeShapes Go.WideShapes Go.ChangeAt Go.RowKit
open Go.ChangeMaps (open_string shut_string)
set_option linter.unusedVariables false

set_option maxRecDepth 100000 in
set_option maxHeartbeats 4000000 in
theorem walk (a0 : Option Addr) (n0 c0 : Nat) (z0 : List Int) (a1 : Int) (a2 : Int) (a3 : Int) (a4 : Int) (w : World) (l0 : z0.length = n0) (cp0 : n0 ≤ c0 ∧ c0 ≤ maxLen) (nz0 : a0 = none → c0 = 0) (rd0 : H.RdI w w.heap.size .u16 a0 z0) (wf0 : ∀ n ∈ z0, (Lit.int .u16 n).wf = true) (r0 : z0.length * 2 ≤ 140737488351232) (w1 : (Lit.int .u8 a1).wf = true) (w2 : (Lit.int .u8 a2).wf = true) (w3 : (Lit.int .u16 a3).wf = true) (w4 : (Lit.int .u16 a4).wf = true) :
    Calls Try.prog 11 #[.slice a0 n0 c0, .int .u8 a1, .int .u8 a2, .int .u16 a3, .int .u16 a4] w fun e w' => e = .returned (.bool true) ∧ Below w.heap.size w w' := by
  subst l0
  have v1 := Pw.u8_bd w1
  have v2 := Pw.u8_bd w2
  have v3 := Pw.u16_bd w3
  have v4 := Pw.u16_bd w4
  have hz : ∀ n ∈ z0, 0 ≤ n ∧ n < 65536 := fun n hn => Pw.u16_bd (wf0 n hn)
  have hz0 : ∀ n ∈ z0, 0 ≤ n := fun n hn => (hz n hn).1
  have HL := Lib.hid (fun W => Pw.lives_any W)
  have HT := Lib.hid (Pw.rtable2_any z0 a0 c0 w.heap.size w (Nat.le_refl _) (by omega) hz rd0)
  have hall := Pw.tab_all hz0
  have htok := Pw.tab_tok hz0
  have hsrt := Pw.tab_srt hz0
  have hdis := Pw.tab_dis hz0
  have hbz := Pw.tab_b hz0
  have hend := Pw.tab_end_le hz0
  have t2 : a1.tmod 2 = a1 % 2 := Int.tmod_eq_emod_of_nonneg v1.1
  have hc : 0 ≤ a1 % 2 ∧ a1 % 2 < 2 := by omega
  generalize Pw.tabL z0 = T at *
  generalize hcc : a1 % 2 = cr at *
  have HP : RowKit.Hid (∀ W A c, Q.RdsWn W W.heap.size A T → Calls Try.prog 24 #[.slice A T.length c, .int .i64 cr, .int .i64 a2, .int .i64 a3, .int .i64 a4] W fun e w' => e = .returned (.int .i64 (Pw.need T cr a3 a4 a2)) ∧ RowKit.Below W.heap.size W w') := Lib.hid (fun W A c hr => Pw.preserve_any T A c W.heap.size cr a2 a3 a4 W (Nat.le_refl _) (by omega) (by omega) (by omega) (by omega) htok hsrt hr)
  rw [Pw.need_mx T cr a3 a4 a2 hend.1] at HP
  have HE := Lib.hid (fun W A c (hr : Q.RdsWn W W.heap.size A T) => Pw.rend_any T A c W.heap.size W (Nat.le_refl _) (by omega) hr)
  have HTK := Lib.hid (fun W A c (u : Int) (hr : Q.RdsWn W W.heap.size A T) => Q.pticks_any T A c W.heap.size 3 cr 0 a2 u W (Nat.le_refl _) (by omega) htok hr)
  have HDF := Lib.hid (fun j => Pw.df_tick hdis hbz cr a3 a4 a2 j)
  have HM0 : RowKit.Hid (Pw.mx T cr a3 a4 a2 0 = 0) := Lib.hid rfl
  have HMS : RowKit.Hid (∀ q, Pw.mx T cr a3 a4 a2 (q + 1) = max (Pw.mx T cr a3 a4 a2 q) (Pw.df T cr a3 a4 a2 q)) := Lib.hid (fun q => rfl)
  have HLE := hall.2.2
  clear cp0 nz0 rd0 wf0 r0 hall htok hsrt hz hz0 w1 w2 w3 w4 hdis hbz
  generalize z0.length = zl at *
  generalize T.length = tl at *
  generalize Pw.mx T cr a3 a4 a2 = M at *
  generalize Pw.df T cr a3 a4 a2 = F at *
  generalize Pw.endT T 0 = E at *
  obtain ⟨cnt, hcnt⟩ : ∃ cnt, (E - a2 + 1).toNat = cnt := ⟨_, rfl⟩
  rw [hcnt] at HP
  go_enter Try.func11, Try.ntmps11
  go_upto_region 4 with (first
    | (go_at_call 23; refine HT.out.mono ?_; rintro e w5 ⟨A5, c5, rfl, r5, hB⟩; have R5 := Lib.hid r5; have B5 := Lib.hid hB; clear r5 hB)
    | (go_at_call 27; with_reducible refine (HE.out _ _ _ R5.out).mono ?_; rintro e w6 ⟨rfl, hB⟩; have R6 := Lib.hid ((R5.out.below hB).more hB.size); have B6 := Lib.hid (Pw.bt B5.out hB); clear hB R5))
  go_loopg [15, 16] cnt (fun g m k wr => ∃ q : Nat, q + g = cnt ∧ m = .int .i64 (M q) ∧ k = .int .i64 (a2 + q) ∧ Below w6.heap.size w6 wr)
  case atStart => exact ⟨0, by omega, by rw [HM0.out], by simp, Below.refl _ _⟩
  case round =>
    obtain ⟨q, hg, rfl, rfl, hB⟩ := hrel
    have RW := Lib.hid ((R6.out.below hB).more hB.size)
    have BW := Lib.hid (Pw.bt B6.out hB)
    have HBW := Lib.hid hB
    clear hB
    obtain ⟨k, hk⟩ : ∃ k, a2 + (q : Int) = k := ⟨_, rfl⟩
    rw [hk]
    by_cases hlt : q < cnt
    · have hki : k ≤ E := by omega
      obtain ⟨⟨d0, d1⟩, d2⟩ := HDF.out q
      rw [hk] at d0 d1 d2
      have hst := HMS.out q
      obtain ⟨D, hD⟩ : ∃ D, Q.tick T 3 cr 0 a2 k = D := ⟨_, rfl⟩
      have HTK1 : RowKit.Hid (∀ W A c, Q.RdsWn W W.heap.size A T → Calls Try.prog 31 #[.slice A tl c, .int .i64 3, .int .i64 cr, .int .i64 0, .int .i64 a2, .int .i64 k] W fun e w' => e = .returned (.int .i64 D) ∧ RowKit.Below W.heap.size W w') := Lib.hid (fun W A c hr => by rw [← hD]; exact HTK.out W A c k hr)
      rw [hD] at d0 d1 d2
      clear hD
      have hw1 : IntKind.i64.wrap (k - a2) = (q : Int) := by rw [show k - a2 = (q : Int) by omega]; exact IntWalk.i64_in _ (by omega)
      have hm0 : 0 ≤ (q : Int) * a3 ∧ (q : Int) * a3 ≤ 1001 * 65535 := ⟨Int.mul_nonneg (by omega) (by omega), Int.mul_le_mul (by omega) (by omega) (by omega) (by omega)⟩
      have hw2 : IntKind.i64.wrap ((q : Int) * a3) = (q : Int) * a3 := IntWalk.i64_in _ (by omega)
      obtain ⟨r, hr⟩ : ∃ r, (q : Int) - D = r := ⟨_, rfl⟩
      have hw3 : IntKind.i64.wrap ((q : Int) - D) = r := by rw [hr]; exact IntWalk.i64_in _ (by omega)
      have hm1 : 0 ≤ r * a4 ∧ r * a4 ≤ 1001 * 65535 := ⟨Int.mul_nonneg (by omega) (by omega), Int.mul_le_mul (by omega) (by omega) (by omega) (by omega)⟩
      have hw4 : IntKind.i64.wrap (r * a4) = r * a4 := IntWalk.i64_in _ (by omega)
      have hw5 : IntKind.i64.wrap ((q : Int) * a3 - r * a4) = F q := by rw [d2, hr]; exact IntWalk.i64_in _ (by omega)
      have hif : (if M q < F q then F q else M q) = M (q + 1) := by rw [hst]; split <;> omega
      have HG := Lib.hid hg
      have HK := Lib.hid hk
      have HLT := Lib.hid hlt
      have hkb : 0 ≤ k ∧ k ≤ 1000 := by omega
      clear d0 d1 d2 hst hr hg hk hm0 hm1 hlt
      go_wp2_with (go_at_call 31; with_reducible refine (HTK1.out _ _ _ RW.out).mono ?_; rintro e w7 ⟨rfl, hB⟩; have HB7 := Lib.hid (HBW.out.trans (hB.mono HBW.out.size)); clear hB)
      go_roundg (gk - 1)
      case measure => have := HG.out; have := HLT.out; omega
      case rel => exact ⟨q + 1, by have := HG.out; have := HLT.out; omega, by first | rfl | (rw [hif]) | (rw [HMS.out]), by have := HK.out; go_num, HB7.out⟩
    · have hki : ¬ k ≤ E := by omega
      have hqe : q = cnt := by omega
      subst hqe
      clear hg hk hcnt
      go_wp2_with (first
        | (go_at_call 24; with_reducible refine (HP.out _ _ _ RW.out).mono ?_; rintro e w8 ⟨rfl, hB⟩; have B8 := Lib.hid (Pw.bt BW.out hB); clear hB)
        | (go_at_call 12; with_reducible refine (HL.out _).mono ?_; rintro e w10 ⟨rfl, hB10⟩))
      go_ret
      exact ⟨rfl, Pw.bt B8.out hB10⟩

set_option maxRecDepth 100000 in
theorem lifted (os : Os) (started : os.Started) (H0 : Type) (enc : TypeId × Value → H0) :
    ReturnsInHanded {} Try.checked os 11 .any (Rows.powerDeficitSpec.pre6 enc Try.prog Try.f11 Rows.powerDeficitRow.domain false) (Rows.powerDeficitSpec.post enc Try.prog Try.f11 false true false false) := by
  refine returnsInHanded_of_change_sized (C := Try.checked) Go.Proofs.Ytobbnbelacncjaa.O.own started (by kernel_rfl) Try.func11
    (ChangeSpec.witness6 (enc := enc) (C := Try.checked) false ⟨#[], #[.slice none 0 0, .int .u8 0, .int .u8 0, .int .u16 0, .int .u16 0], []⟩ 8 (by kernel_rfl) (by kernel_rfl) (by kernel_rfl) (by kernel_rfl)) ?_
  intro W base args ds gs before hval0 hW hcnd hsz0 _
  have hsz : (DataW.weightsEach Try.prog (Try.f11.params.toList ++ Rows.powerDeficitSpec.plain.varTypes Try.prog) (ds ++ gs)).all (· ≤ reachBytes) = true := hsz0
  clear hsz0
  have hval : ∀ (j : Nat) t v, Try.f11.params[j]? = some t → args[j]? = some v → Value.okWide Try.prog W .any base t v := hval0
  have hW' := hW
  obtain ⟨p, q, hA0, hV, rfl, hfz, hnd⟩ := hW
  have hA : DataW.TrodAll enc Try.prog W 0 (fun _ => true) true Try.f11.params.toList args.toList ds p := hA0
  rw [Try.params11] at hA hval hsz
  obtain ⟨v0, vs0, d0, ds0, p0, q0, hargs, rfl, rfl, h0, r0⟩ := trodAll_cons hA
  obtain ⟨v1, vs1, d1, ds1, p1, q1, rfl, rfl, rfl, h1, r1⟩ := trodAll_cons r0
  obtain ⟨v2, vs2, d2, ds2, p2, q2, rfl, rfl, rfl, h2, r2⟩ := trodAll_cons r1
  obtain ⟨v3, vs3, d3, ds3, p3, q3, rfl, rfl, rfl, h3, r3⟩ := trodAll_cons r2
  obtain ⟨v4, vs4, d4, ds4, p4, q4, rfl, rfl, rfl, h4, r4⟩ := trodAll_cons r3
  obtain ⟨rfl, rfl, rfl⟩ := trodAll_nil r4
  obtain rfl : args = #[v0, v1, v2, v3, v4] := by cases args; simp_all
  obtain ⟨rfl, rfl⟩ := trodVars_none hV
  obtain ⟨a0, n0, c0, rfl⟩ := okWide_slice Try.underlying44 (hval 0 44 v0 rfl rfl)
  have k0 := h0
  have lt0 : ∀ x ∈ p0, x.block < W.heap.size := by obtain ⟨m, hm⟩ := k0; exact DataW.trod_lt m _ _ _ hm
  obtain ⟨z0, l0, cp0, cq0, nz0, rd0, wf0, bj0⟩ := Go.Proofs.Ytobbnbelacncjaa.O.open_isT Try.underlying44 Try.underlying38 (by kernel_rfl) h0
  have el0 := Go.Proofs.Ytobbnbelacncjaa.O.open_el Try.underlying44 Try.underlying38 (by kernel_rfl) k0
  obtain ⟨a1, rfl, rfl, rfl, w1⟩ := open_int Try.underlying5 (hval 1 5 v1 rfl rfl) h1
  obtain ⟨a2, rfl, rfl, rfl, w2⟩ := open_int Try.underlying5 (hval 2 5 v2 rfl rfl) h2
  obtain ⟨a3, rfl, rfl, rfl, w3⟩ := open_int Try.underlying38 (hval 3 38 v3 rfl rfl) h3
  obtain ⟨a4, rfl, rfl, rfl, w4⟩ := open_int Try.underlying38 (hval 4 38 v4 rfl rfl) h4
  clear hA0 hval0
  have r0 : z0.length * 2 ≤ 140737488351232 := by
    rcases el0 with h | ⟨es, sp, h, hle⟩
    · omega
    · have hr := sized_slice hsz (j := 0) (t := 44) (e := 38) (elems := es) (spare := sp) rfl (by simp [h]) Try.underlying44
      rw [show Try.prog.bytesOf 38 = 2 from by kernel_rfl] at hr
      simp only [reachBytes] at hr
      omega
  refine (walk a0 n0 c0 z0 a1 a2 a3 a4 W l0 ⟨cp0, cq0⟩ nz0 rd0 wf0 r0 w1 w2 w3 w4).mono fun e W' ⟨he, bel⟩ => ?_
  subst he
  exact ⟨_, rfl, _, _, _, [], _, [], hW', trodAll_mk1 (shut_bool Try.underlying4 _), (trodAll_cons_mk (Below.trod Go.Proofs.Ytobbnbelacncjaa.O.laidOut (by kernel_rfl) (of_decide_eq_true (by kernel_rfl)) k0 bel lt0) (trodAll_cons_mk (shut_int Try.underlying5 w1) (trodAll_cons_mk (shut_int Try.underlying5 w2) (trodAll_cons_mk (shut_int Try.underlying38 w3) (trodAll_cons_mk (shut_int Try.underlying38 w4) trodAll_mk0))))), rfl, bel.frame _, fun h => by cases h⟩

/-- ████ THE STATEMENT ████ -/
theorem proved : Rows.PowerDeficitSaid :=
  OpenClaim.holds_of_wide 11 Try.f11 rfl rfl rfl rfl rfl rfl rfl ⟨rfl, rfl, rfl, rfl, rfl⟩ rfl rfl rfl rfl rfl (by kernel_rfl) Try.func11 (by kernel_rfl)
    (of_decide_eq_true (by kernel_rfl)) (by unfold Func.isWrapper; first | (rw [if_pos (by decide +kernel)]; kernel_rfl) | (rw [if_neg (by decide +kernel)]; exact ⟨rfl, rfl⟩))
    (fun os started H0 enc _ => lifted os started H0 enc)
end Go.Proofs.Ytobbnbelacncjaa.powerDeficit
