/-
  For all numbers, crafts, stations, ticks and sizes, OrbitLater returns true: starting later, or with a larger message, does not lead to an earlier arrival, no message arrives before it starts, and the chapter's examples hold.
-/
import Derived.Test.YtojflmejkigdiaaQLow
import Derived.Test.YtojflmejkigdiaaQTab
import Derived.Test.YtojflmejkigdiaaQLiv
import Derived.Deep.DeepCutAuto
import Derived.Deep.RegionHeld3
import Derived.Deep.LoopGhost
import Derived.Deep.QuietTactic
namespace Go.Proofs.Ytojflmejkigdiaa.orbitLater
open Go.ChangeShapes Go.WideShapes Go.ChangeAt Go.RowKit
open Go.ChangeMaps (open_string shut_string)
set_option linter.unusedVariables false

set_option maxRecDepth 100000 in
set_option maxHeartbeats 4000000 in
theorem walk (a0 : Option Addr) (n0 c0 : Nat) (z0 : List Int) (a1 : Int) (a2 : Int) (a3 : Int) (a4 : Int) (a5 : Int) (a6 : Int) (w : World) (l0 : z0.length = n0) (cp0 : n0 ≤ c0 ∧ c0 ≤ maxLen) (nz0 : a0 = none → c0 = 0) (rd0 : H.RdI w w.heap.size .i64 a0 z0) (wf0 : ∀ n ∈ z0, (Lit.int .i64 n).wf = true) (r0 : z0.length * 8 ≤ 140737488351232) (w1 : (Lit.int .i64 a1).wf = true) (w2 : (Lit.int .i64 a2).wf = true) (w3 : (Lit.int .i64 a3).wf = true) (w4 : (Lit.int .i64 a4).wf = true) (w5 : (Lit.int .i64 a5).wf = true) (w6 : (Lit.int .i64 a6).wf = true) :
    Calls Try.prog 10 #[.slice a0 n0 c0, .int .i64 a1, .int .i64 a2, .int .i64 a3, .int .i64 a4, .int .i64 a5, .int .i64 a6] w fun e w' => e = .returned (.bool true) ∧ Below w.heap.size w w' := by
  subst l0
  have HL := Lib.hid (fun W => Q.lives_any W)
  have HT : RowKit.Hid (∀ W, RowKit.Below w.heap.size w W → Calls Try.prog 16 #[.slice a0 z0.length c0] W fun e w' => ∃ A2 c2 T, e = .returned (.slice A2 T.length c2) ∧ Q.Good T ∧ T.length ≤ 60 ∧ Q.OwnT w' A2 T c2 ∧ RowKit.Below W.heap.size W w') :=
    Lib.hid (fun W hW => Q.rtable_any z0 a0 c0 w.heap.size W hW.size (by omega) (rd0.below hW) (fun z hz => H.i64_range (wf0 z hz)))
  have HA1 : RowKit.Hid (∃ R : Nat, R < 12 ∧ ∀ W, Calls Try.prog 17 #[.int .i64 a1, .int .i64 12] W fun e w' => e = .returned (.int .i64 R) ∧ w' = W) := Lib.hid (by obtain ⟨k, h1, h2⟩ := H.around_nat a1 (m := 12) (by omega); exact ⟨k, h2, fun W => by have h := H.around_any a1 12 (H.i64_range w1).1 (H.i64_range w1).2 (by omega) (by omega) W; rwa [show H.around a1 12 = (k : Int) from h1] at h⟩)
  have HA2 : RowKit.Hid (∃ R : Nat, R < 9 ∧ ∀ W, Calls Try.prog 17 #[.int .i64 a2, .int .i64 9] W fun e w' => e = .returned (.int .i64 R) ∧ w' = W) := Lib.hid (by obtain ⟨k, h1, h2⟩ := H.around_nat a2 (m := 9) (by omega); exact ⟨k, h2, fun W => by have h := H.around_any a2 9 (H.i64_range w2).1 (H.i64_range w2).2 (by omega) (by omega) W; rwa [show H.around a2 9 = (k : Int) from h1] at h⟩)
  have HA3 : RowKit.Hid (∃ R : Int, (0 ≤ R ∧ R < 400) ∧ ∀ W, Calls Try.prog 17 #[.int .i64 a3, .int .i64 400] W fun e w' => e = .returned (.int .i64 R) ∧ w' = W) := Lib.hid ⟨_, H.around_lt a3 (by omega), fun W => H.around_any a3 400 (H.i64_range w3).1 (H.i64_range w3).2 (by omega) (by omega) W⟩
  have HA4 : RowKit.Hid (∃ R : Int, (0 ≤ R ∧ R < 500) ∧ ∀ W, Calls Try.prog 17 #[.int .i64 a4, .int .i64 500] W fun e w' => e = .returned (.int .i64 R) ∧ w' = W) := Lib.hid ⟨_, H.around_lt a4 (by omega), fun W => H.around_any a4 500 (H.i64_range w4).1 (H.i64_range w4).2 (by omega) (by omega) W⟩
  have HA5 : RowKit.Hid (∃ R : Int, (0 ≤ R ∧ R < 100) ∧ ∀ W, Calls Try.prog 17 #[.int .i64 a5, .int .i64 100] W fun e w' => e = .returned (.int .i64 R) ∧ w' = W) := Lib.hid ⟨_, H.around_lt a5 (by omega), fun W => H.around_any a5 100 (H.i64_range w5).1 (H.i64_range w5).2 (by omega) (by omega) W⟩
  have HA6 : RowKit.Hid (∃ R : Int, (0 ≤ R ∧ R < 100) ∧ ∀ W, Calls Try.prog 17 #[.int .i64 a6, .int .i64 100] W fun e w' => e = .returned (.int .i64 R) ∧ w' = W) := Lib.hid ⟨_, H.around_lt a6 (by omega), fun W => H.around_any a6 100 (H.i64_range w6).1 (H.i64_range w6).2 (by omega) (by omega) W⟩
  obtain ⟨c, hc, HC⟩ := HA1.out
  obtain ⟨s, hs, HSS⟩ := HA2.out
  obtain ⟨k, hk, HK⟩ := HA3.out
  obtain ⟨n, hn, HN⟩ := HA4.out
  obtain ⟨p, hp, HP⟩ := HA5.out
  obtain ⟨q, hq, HQ⟩ := HA6.out
  replace HC := Lib.hid HC
  replace HSS := Lib.hid HSS
  replace HK := Lib.hid HK
  replace HN := Lib.hid HN
  replace HP := Lib.hid HP
  replace HQ := Lib.hid HQ
  clear cp0 nz0 rd0 wf0 r0 w1 w2 w3 w4 w5 w6 HA1 HA2 HA3 HA4 HA5 HA6
  generalize z0.length = zl at *
  have hn1 : IntKind.i64.wrap (1 + n) = 1 + n := IntWalk.i64_in _ (by omega)
  have hkp : IntKind.i64.wrap (k + p) = k + p := IntWalk.i64_in _ (by omega)
  have hnq : IntKind.i64.wrap (1 + n + q) = 1 + n + q := IntWalk.i64_in _ (by omega)
  go_enter Try.func10, Try.ntmps10
  go_upto_region 2 with (go_at_call 16; refine (HT.out _ (RowKit.Below.refl _ _)).mono ?_; rintro e w2 ⟨A2, c2, T, rfl, hgd, htl, hO, hB⟩; have HGD := Lib.hid hgd; have HO := Lib.hid hO; have HB2 := Lib.hid hB; have HTL := Lib.hid htl; clear hgd hO hB htl)
  have HAR1 : RowKit.Hid (∀ W, RowKit.Below w2.heap.size w2 W → Calls Try.prog 28 #[.slice A2 T.length c2, .int .i64 c, .int .i64 s, .int .i64 k, .int .i64 (1 + n)] W fun e w' => (∃ E, Q.Erl T c k (1 + n) E ∧ ((Q.gt E (12 + s) = 1000001 ∧ e = .returned (.tuple #[.int .i64 0, .slice none 0 0, .bool false])) ∨ (Q.Nd E (12 + s) ∧ ∃ v l, Q.Chn (fun m => Q.befL E m (1 + n) (Q.hl T)) c (12 + s) l ∧ e = .returned (.tuple #[.int .i64 (Q.gt E (12 + s)), v, .bool true]) ∧ w'.ownsRow W.heap.size 3 1 v l.length (Q.ints l)))) ∧ RowKit.Below W.heap.size W w') :=
    Lib.hid (fun W hW => Q.parr_any T A2 c2 w2.heap.size c s k (1 + n) W hW.size (by have := HTL.out; omega) hc hs (by omega) (by omega) (HO.out.rds.below hW))
  have HAR2 : RowKit.Hid (∀ W, RowKit.Below w2.heap.size w2 W → Calls Try.prog 28 #[.slice A2 T.length c2, .int .i64 c, .int .i64 s, .int .i64 (k + p), .int .i64 (1 + n + q)] W fun e w' => (∃ E, Q.Erl T c (k + p) (1 + n + q) E ∧ ((Q.gt E (12 + s) = 1000001 ∧ e = .returned (.tuple #[.int .i64 0, .slice none 0 0, .bool false])) ∨ (Q.Nd E (12 + s) ∧ ∃ v l, Q.Chn (fun m => Q.befL E m (1 + n + q) (Q.hl T)) c (12 + s) l ∧ e = .returned (.tuple #[.int .i64 (Q.gt E (12 + s)), v, .bool true]) ∧ w'.ownsRow W.heap.size 3 1 v l.length (Q.ints l)))) ∧ RowKit.Below W.heap.size W w') :=
    Lib.hid (fun W hW => Q.parr_any T A2 c2 w2.heap.size c s (k + p) (1 + n + q) W hW.size (by have := HTL.out; omega) hc hs (by omega) (by omega) (HO.out.rds.below hW))
  have HLT : RowKit.Hid (∀ E E', Q.Erl T c k (1 + n) E → Q.Erl T c (k + p) (1 + n + q) E' → Q.gt E (12 + (s : Int)) ≤ Q.gt E' (12 + (s : Int))) :=
    Lib.hid (fun E E' h1 h2 => by have h := Q.erl_later (L := T) (by omega) (by omega) (by omega) (by omega) (fun h hh => hh) h1 h2 (12 + s) (by omega); simpa using h)
  have HAF : RowKit.Hid (∀ E, Q.Erl T c k (1 + n) E → Q.Nd E (12 + (s : Int)) → k < Q.gt E (12 + (s : Int))) :=
    Lib.hid (fun E h1 h2 => Q.erl_after (by omega) (by omega) (by omega) h1 h2 (by omega))
  generalize T.length = tl at *
  go_upto_region 6 with (first
    | (go_at_call 17; with_reducible refine (HC.out _).mono ?_; rintro e w3 ⟨rfl, hw⟩; rw [hw]; clear hw w3)
    | (go_at_call 17; with_reducible refine (HSS.out _).mono ?_; rintro e w3 ⟨rfl, hw⟩; rw [hw]; clear hw w3)
    | (go_at_call 17; with_reducible refine (HK.out _).mono ?_; rintro e w3 ⟨rfl, hw⟩; rw [hw]; clear hw w3)
    | (go_at_call 17; with_reducible refine (HN.out _).mono ?_; rintro e w3 ⟨rfl, hw⟩; rw [hw]; clear hw w3))
  clear HC HSS HK HN
  go_upto_region 7 with (go_at_call 28; with_reducible refine (HAR1.out _ (RowKit.Below.refl _ _)).mono ?_; rintro e w3 ⟨⟨E, hE, hcase⟩, hB3⟩; rcases hcase with ⟨h1, rfl⟩ | ⟨hnd, v, l, hch, rfl, hO3⟩)
  · have HLE := Lib.hid (fun E' h' => (by have h := HLT.out E E' hE h'; omega : 1000001 ≤ Q.gt E' (12 + (s : Int))))
    clear HLT HAF HAR1 h1 hE
    go_wp2_with (first
      | (go_at_call 17; with_reducible refine (HP.out _).mono ?_; rintro e w6 ⟨rfl, hw⟩; rw [hw]; clear hw w6)
      | (go_at_call 17; with_reducible refine (HQ.out _).mono ?_; rintro e w6 ⟨rfl, hw⟩; rw [hw]; clear hw w6)
      | (go_at_call 28; with_reducible refine (HAR2.out _ hB3).mono ?_; rintro e w4 ⟨⟨E2, hE2, hcase2⟩, hB4⟩; have P4 := Q.bt hB3 hB4; have hle := HLE.out _ hE2; rcases hcase2 with ⟨h2, rfl⟩ | ⟨hnd2, _, _, _, _, _⟩; rotate_left; (exfalso; have h9 := hnd2.tk; omega))
      | (go_at_call 15; refine (HL.out _).mono ?_; rintro e w5 ⟨rfl, hB5⟩; have P5 := Q.bt P4 hB5; clear hB5))
    go_ret
    exact ⟨rfl, HB2.out.trans (P5.mono HB2.out.size)⟩
  · have HLE := Lib.hid (fun E' h' => HLT.out E E' hE h')
    have hkg := HAF.out E hE hnd
    clear HLT HAF HAR1 hE hnd hch hO3
    generalize Q.gt E (12 + (s : Int)) = g at *
    go_wp2_with (first
      | (go_at_call 17; with_reducible refine (HP.out _).mono ?_; rintro e w6 ⟨rfl, hw⟩; rw [hw]; clear hw w6)
      | (go_at_call 17; with_reducible refine (HQ.out _).mono ?_; rintro e w6 ⟨rfl, hw⟩; rw [hw]; clear hw w6)
      | (go_at_call 28; with_reducible refine (HAR2.out _ hB3).mono ?_; rintro e w4 ⟨⟨E2, hE2, hcase2⟩, hB4⟩; have P4 := Q.bt hB3 hB4; have hle := HLE.out _ hE2; clear HLE; generalize Q.gt E2 (12 + (s : Int)) = g2 at *; rcases hcase2 with ⟨h2, rfl⟩ | ⟨_, v2, _, _, rfl, _⟩)
      | (go_at_call 15; refine (HL.out _).mono ?_; rintro e w5 ⟨rfl, hB5⟩; have P5 := Q.bt P4 hB5; clear hB5))
    all_goals go_ret
    all_goals exact ⟨rfl, HB2.out.trans (P5.mono HB2.out.size)⟩

set_option maxRecDepth 100000 in
theorem lifted (os : Os) (started : os.Started) (H0 : Type) (enc : TypeId × Value → H0) :
    ReturnsInHanded {} Try.checked os 10 .any (Rows.orbitLaterSpec.pre6 enc Try.prog Try.f10 Rows.orbitLaterRow.domain false) (Rows.orbitLaterSpec.post enc Try.prog Try.f10 false true false false) := by
  refine returnsInHanded_of_change_sized (C := Try.checked) Go.Proofs.Ytojflmejkigdiaa.O.own started (by kernel_rfl) Try.func10
    (ChangeSpec.witness6 (enc := enc) (C := Try.checked) false ⟨#[], #[.slice none 0 0, .int .i64 0, .int .i64 0, .int .i64 0, .int .i64 0, .int .i64 0, .int .i64 0], []⟩ 8 (by kernel_rfl) (by kernel_rfl) (by kernel_rfl) (by kernel_rfl)) ?_
  intro W base args ds gs before hval0 hW hcnd hsz0 _
  have hsz : (DataW.weightsEach Try.prog (Try.f10.params.toList ++ Rows.orbitLaterSpec.plain.varTypes Try.prog) (ds ++ gs)).all (· ≤ reachBytes) = true := hsz0
  clear hsz0
  have hval : ∀ (j : Nat) t v, Try.f10.params[j]? = some t → args[j]? = some v → Value.okWide Try.prog W .any base t v := hval0
  have hW' := hW
  obtain ⟨p, q, hA0, hV, rfl, hfz, hnd⟩ := hW
  have hA : DataW.TrodAll enc Try.prog W 0 (fun _ => true) true Try.f10.params.toList args.toList ds p := hA0
  rw [Try.params10] at hA hval hsz
  obtain ⟨v0, vs0, d0, ds0, p0, q0, hargs, rfl, rfl, h0, r0⟩ := trodAll_cons hA
  obtain ⟨v1, vs1, d1, ds1, p1, q1, rfl, rfl, rfl, h1, r1⟩ := trodAll_cons r0
  obtain ⟨v2, vs2, d2, ds2, p2, q2, rfl, rfl, rfl, h2, r2⟩ := trodAll_cons r1
  obtain ⟨v3, vs3, d3, ds3, p3, q3, rfl, rfl, rfl, h3, r3⟩ := trodAll_cons r2
  obtain ⟨v4, vs4, d4, ds4, p4, q4, rfl, rfl, rfl, h4, r4⟩ := trodAll_cons r3
  obtain ⟨v5, vs5, d5, ds5, p5, q5, rfl, rfl, rfl, h5, r5⟩ := trodAll_cons r4
  obtain ⟨v6, vs6, d6, ds6, p6, q6, rfl, rfl, rfl, h6, r6⟩ := trodAll_cons r5
  obtain ⟨rfl, rfl, rfl⟩ := trodAll_nil r6
  obtain rfl : args = #[v0, v1, v2, v3, v4, v5, v6] := by cases args; simp_all
  obtain ⟨rfl, rfl⟩ := trodVars_none hV
  obtain ⟨a0, n0, c0, rfl⟩ := okWide_slice Try.underlying27 (hval 0 27 v0 rfl rfl)
  have k0 := h0
  have lt0 : ∀ x ∈ p0, x.block < W.heap.size := by obtain ⟨m, hm⟩ := k0; exact DataW.trod_lt m _ _ _ hm
  obtain ⟨z0, l0, cp0, cq0, nz0, rd0, wf0, bj0⟩ := Go.Proofs.Ytojflmejkigdiaa.O.open_isT Try.underlying27 Try.underlying3 (by kernel_rfl) h0
  have el0 := Go.Proofs.Ytojflmejkigdiaa.O.open_el Try.underlying27 Try.underlying3 (by kernel_rfl) k0
  obtain ⟨a1, rfl, rfl, rfl, w1⟩ := open_int Try.underlying3 (hval 1 3 v1 rfl rfl) h1
  obtain ⟨a2, rfl, rfl, rfl, w2⟩ := open_int Try.underlying3 (hval 2 3 v2 rfl rfl) h2
  obtain ⟨a3, rfl, rfl, rfl, w3⟩ := open_int Try.underlying3 (hval 3 3 v3 rfl rfl) h3
  obtain ⟨a4, rfl, rfl, rfl, w4⟩ := open_int Try.underlying3 (hval 4 3 v4 rfl rfl) h4
  obtain ⟨a5, rfl, rfl, rfl, w5⟩ := open_int Try.underlying3 (hval 5 3 v5 rfl rfl) h5
  obtain ⟨a6, rfl, rfl, rfl, w6⟩ := open_int Try.underlying3 (hval 6 3 v6 rfl rfl) h6
  clear hA0 hval0
  have r0 : z0.length * 8 ≤ 140737488351232 := by
    rcases el0 with h | ⟨es, sp, h, hle⟩
    · omega
    · have hr := sized_slice hsz (j := 0) (t := 27) (e := 3) (elems := es) (spare := sp) rfl (by simp [h]) Try.underlying27
      rw [show Try.prog.bytesOf 3 = 8 from by kernel_rfl] at hr
      simp only [reachBytes] at hr
      omega
  refine (walk a0 n0 c0 z0 a1 a2 a3 a4 a5 a6 W l0 ⟨cp0, cq0⟩ nz0 rd0 wf0 r0 w1 w2 w3 w4 w5 w6).mono fun e W' ⟨he, bel⟩ => ?_
  subst he
  exact ⟨_, rfl, _, _, _, [], _, [], hW', trodAll_mk1 (shut_bool Try.underlying4 _), (trodAll_cons_mk (Below.trod Go.Proofs.Ytojflmejkigdiaa.O.laidOut (by kernel_rfl) (of_decide_eq_true (by kernel_rfl)) k0 bel lt0) (trodAll_cons_mk (shut_int Try.underlying3 w1) (trodAll_cons_mk (shut_int Try.underlying3 w2) (trodAll_cons_mk (shut_int Try.underlying3 w3) (trodAll_cons_mk (shut_int Try.underlying3 w4) (trodAll_cons_mk (shut_int Try.underlying3 w5) (trodAll_cons_mk (shut_int Try.underlying3 w6) trodAll_mk0))))))), rfl, bel.frame _, fun h => by cases h⟩

/-- ████ THE STATEMENT ████ -/
theorem proved : Rows.OrbitLaterSaid :=
  OpenClaim.holds_of_wide 10 Try.f10 rfl rfl rfl rfl rfl rfl rfl ⟨rfl, rfl, rfl, rfl, rfl⟩ rfl rfl rfl rfl rfl (by kernel_rfl) Try.func10 (by kernel_rfl)
    (of_decide_eq_true (by kernel_rfl)) (by unfold Func.isWrapper; first | (rw [if_pos (by decide +kernel)]; kernel_rfl) | (rw [if_neg (by decide +kernel)]; exact ⟨rfl, rfl⟩))
    (fun os started H0 enc _ => lifted os started H0 enc)
end Go.Proofs.Ytojflmejkigdiaa.orbitLater
