/-
  For all numbers, crafts, stations, ticks and sizes, OrbitArrival returns true: Arrival returns what the specification's returns over the table that is made from the numbers, and the chapter's examples hold.
-/
import Derived.Test.YtojflmejkigdiaaQRArr
import Derived.Test.YtojflmejkigdiaaQTab
import Derived.Test.YtojflmejkigdiaaQLiv
import Derived.Deep.DeepCutAuto
import Derived.Deep.RegionHeld3
import Derived.Deep.LoopGhost
import Derived.Deep.QuietTactic
namespace Go.Proofs.Ytojflmejkigdiaa.orbitArrival
open Go.ChangeShapes Go.WideShapes Go.ChangeAt Go.RowKit
open Go.ChangeMaps (open_string shut_string)
set_option linter.unusedVariables false

set_option maxRecDepth 100000 in
set_option maxHeartbeats 4000000 in
theorem walk (a0 : Option Addr) (n0 c0 : Nat) (z0 : List Int) (a1 : Int) (a2 : Int) (a3 : Int) (a4 : Int) (w : World) (l0 : z0.length = n0) (cp0 : n0 ≤ c0 ∧ c0 ≤ maxLen) (nz0 : a0 = none → c0 = 0) (rd0 : H.RdI w w.heap.size .i64 a0 z0) (wf0 : ∀ n ∈ z0, (Lit.int .i64 n).wf = true) (r0 : z0.length * 8 ≤ 140737488351232) (w1 : (Lit.int .i64 a1).wf = true) (w2 : (Lit.int .i64 a2).wf = true) (w3 : (Lit.int .i64 a3).wf = true) (w4 : (Lit.int .i64 a4).wf = true) :
    Calls Try.prog 8 #[.slice a0 n0 c0, .int .i64 a1, .int .i64 a2, .int .i64 a3, .int .i64 a4] w fun e w' => e = .returned (.bool true) ∧ Below w.heap.size w w' := by
  subst l0
  have HL := Lib.hid (fun W => Q.lives_any W)
  have HT : RowKit.Hid (∀ W, RowKit.Below w.heap.size w W → Calls Try.prog 16 #[.slice a0 z0.length c0] W fun e w' => ∃ A2 c2 T, e = .returned (.slice A2 T.length c2) ∧ Q.Good T ∧ T.length ≤ 60 ∧ Q.OwnT w' A2 T c2 ∧ RowKit.Below W.heap.size W w') :=
    Lib.hid (fun W hW => Q.rtable_any z0 a0 c0 w.heap.size W hW.size (by omega) (rd0.below hW) (fun z hz => H.i64_range (wf0 z hz)))
  have HA1 : RowKit.Hid (∃ R : Nat, R < 12 ∧ ∀ W, Calls Try.prog 17 #[.int .i64 a1, .int .i64 12] W fun e w' => e = .returned (.int .i64 R) ∧ w' = W) := Lib.hid (by obtain ⟨k, h1, h2⟩ := H.around_nat a1 (m := 12) (by omega); exact ⟨k, h2, fun W => by have h := H.around_any a1 12 (H.i64_range w1).1 (H.i64_range w1).2 (by omega) (by omega) W; rwa [show H.around a1 12 = (k : Int) from h1] at h⟩)
  have HA2 : RowKit.Hid (∃ R : Nat, R < 9 ∧ ∀ W, Calls Try.prog 17 #[.int .i64 a2, .int .i64 9] W fun e w' => e = .returned (.int .i64 R) ∧ w' = W) := Lib.hid (by obtain ⟨k, h1, h2⟩ := H.around_nat a2 (m := 9) (by omega); exact ⟨k, h2, fun W => by have h := H.around_any a2 9 (H.i64_range w2).1 (H.i64_range w2).2 (by omega) (by omega) W; rwa [show H.around a2 9 = (k : Int) from h1] at h⟩)
  have HA3 : RowKit.Hid (∃ R : Int, (0 ≤ R ∧ R < 1000001) ∧ ∀ W, Calls Try.prog 17 #[.int .i64 a3, .int .i64 1000001] W fun e w' => e = .returned (.int .i64 R) ∧ w' = W) := Lib.hid ⟨_, H.around_lt a3 (by omega), fun W => H.around_any a3 1000001 (H.i64_range w3).1 (H.i64_range w3).2 (by omega) (by omega) W⟩
  have HA4 : RowKit.Hid (∃ R : Int, (0 ≤ R ∧ R < 65536) ∧ ∀ W, Calls Try.prog 17 #[.int .i64 a4, .int .i64 65536] W fun e w' => e = .returned (.int .i64 R) ∧ w' = W) := Lib.hid ⟨_, H.around_lt a4 (by omega), fun W => H.around_any a4 65536 (H.i64_range w4).1 (H.i64_range w4).2 (by omega) (by omega) W⟩
  obtain ⟨c, hc, HC⟩ := HA1.out
  obtain ⟨s, hs, HSS⟩ := HA2.out
  obtain ⟨k, hk, HK⟩ := HA3.out
  obtain ⟨n, hn, HN⟩ := HA4.out
  replace HC := Lib.hid HC
  replace HSS := Lib.hid HSS
  replace HK := Lib.hid HK
  replace HN := Lib.hid HN
  clear cp0 nz0 rd0 wf0 r0 w1 w2 w3 w4 HA1 HA2 HA3 HA4
  generalize z0.length = zl at *
  have hn1 : IntKind.i64.wrap (1 + n) = 1 + n := IntWalk.i64_in _ (by omega)
  go_enter Try.func8, Try.ntmps8
  go_upto_region 2 with (go_at_call 16; refine (HT.out _ (RowKit.Below.refl _ _)).mono ?_; rintro e w2 ⟨A2, c2, T, rfl, hgd, htl, hO, hB⟩; have HGD := Lib.hid hgd; have HO := Lib.hid hO; have HB2 := Lib.hid hB; have HTL := Lib.hid htl; clear hgd hO hB htl)
  have HAR1 : RowKit.Hid (∀ W, RowKit.Below w2.heap.size w2 W → Calls Try.prog 28 #[.slice A2 T.length c2, .int .i64 c, .int .i64 s, .int .i64 k, .int .i64 (1 + n)] W fun e w' => (∃ E, Q.Erl T c k (1 + n) E ∧ ((Q.gt E (12 + s) = 1000001 ∧ e = .returned (.tuple #[.int .i64 0, .slice none 0 0, .bool false])) ∨ (Q.Nd E (12 + s) ∧ ∃ A1 c1 l, Q.Chn (fun m => Q.befL E m (1 + n) (Q.hl T)) c (12 + s) l ∧ e = .returned (.tuple #[.int .i64 (Q.gt E (12 + s)), .slice A1 l.length c1, .bool true]) ∧ H.RdI w' w'.heap.size .i64 A1 l))) ∧ RowKit.Below W.heap.size W w') :=
    Lib.hid (fun W hW => Q.parr_x T A2 c2 w2.heap.size c s k (1 + n) W hW.size (by have := HTL.out; omega) hc hs (by omega) (by omega) (HO.out.rds.below hW))
  have HAR2 : RowKit.Hid (∀ W, RowKit.Below w2.heap.size w2 W → Calls Try.prog 29 #[.slice A2 T.length c2, .int .i64 c, .int .i64 s, .int .i64 k, .int .i64 (1 + n)] W fun e w' => (∃ E, Q.Erl T c k (1 + n) E ∧ ((Q.gt E (12 + s) = 1000001 ∧ e = .returned (.tuple #[.int .i64 0, .slice none 0 0, .bool false])) ∨ (Q.Nd E (12 + s) ∧ ∃ A1 c1 l, Q.Chn (fun m => Q.befL E m (1 + n) (Q.hl T)) c (12 + s) l ∧ e = .returned (.tuple #[.int .i64 (Q.gt E (12 + s)), .slice A1 l.length c1, .bool true]) ∧ H.RdI w' w'.heap.size .i64 A1 l))) ∧ RowKit.Below W.heap.size W w') :=
    Lib.hid (fun W hW => Q.rarr_any T A2 c2 w2.heap.size c s k (1 + n) W hW.size (by have := HTL.out; omega) HGD.out.ok hc hs (by omega) (by omega) (HO.out.rds.below hW))
  have HONE : RowKit.Hid (∀ E E', Q.Erl T c k (1 + n) E → Q.Erl T c k (1 + n) E' → E' = E) := Lib.hid (fun E E' h1 h2 => Q.erl_one h2 h1)
  have HCL : RowKit.Hid (∀ E l, Q.Chn (fun m => Q.befL E m (1 + n) (Q.hl T)) c (12 + s) l → l.length ≤ 13 ∨ ¬ Q.Nd E (12 + s) ∨ ¬ Q.Erl T c k (1 + n) E) := Lib.hid (fun E l h => by
    by_cases h1 : Q.Nd E (12 + s)
    · by_cases h2 : Q.Erl T c k (1 + n) E
      · have h3 := Q.chn_len (by omega) (by omega) (by omega) h2 h h1
        have h4 := Q.rk_le E (12 + s)
        exact .inl (by omega)
      · exact .inr (.inr h2)
    · exact .inr (.inl h1))
  have HSI : RowKit.Hid (∀ (l : List Int) W A A' c c', l.length ≤ 13 → H.RdI W W.heap.size .i64 A l → H.RdI W W.heap.size .i64 A' l → Calls Try.prog 25 #[.slice A l.length c, .slice A' l.length c'] W fun e w' => e = .returned (.bool true) ∧ RowKit.Below W.heap.size W w') :=
    Lib.hid (fun l W A A' c c' h0 h1 h2 => by have h := Q.sameI_any A A' c c' _ _ W (by omega) (by omega) h1 h2; simpa using h)
  have HSN : RowKit.Hid (∀ W : World, Calls Try.prog 25 #[.slice none 0 0, .slice none 0 0] W fun e w' => e = .returned (.bool true) ∧ RowKit.Below W.heap.size W w') :=
    Lib.hid (fun W => by have h := Q.sameI_any none none 0 0 [] [] W (by simp) (by simp) H.RdI.nil H.RdI.nil; simpa using h)
  generalize T.length = tl at *
  go_upto_region 6 with (first
    | (go_at_call 17; with_reducible refine (HC.out _).mono ?_; rintro e w3 ⟨rfl, hw⟩; rw [hw]; clear hw w3)
    | (go_at_call 17; with_reducible refine (HSS.out _).mono ?_; rintro e w3 ⟨rfl, hw⟩; rw [hw]; clear hw w3)
    | (go_at_call 17; with_reducible refine (HK.out _).mono ?_; rintro e w3 ⟨rfl, hw⟩; rw [hw]; clear hw w3)
    | (go_at_call 17; with_reducible refine (HN.out _).mono ?_; rintro e w3 ⟨rfl, hw⟩; rw [hw]; clear hw w3))
  clear HC HSS HK HN
  go_upto_region 7 with (go_at_call 28; with_reducible refine (HAR1.out _ (RowKit.Below.refl _ _)).mono ?_; rintro e w3 ⟨⟨E, hE, hcase⟩, hB3⟩; rcases hcase with ⟨h1, rfl⟩ | ⟨hnd, A3, c3, l, hch, rfl, hR3⟩)
  · have HEE := Lib.hid hE
    have HG1 := Lib.hid h1
    clear HAR1 hE h1 HCL HSI
    go_wp2_with (first
      | (go_at_call 29; with_reducible refine (HAR2.out _ hB3).mono ?_; rintro e w4 ⟨⟨E2, hE2, hcase2⟩, hB4⟩; have P4 := Q.bt hB3 hB4; have heq := HONE.out _ _ HEE.out hE2; subst heq; rcases hcase2 with ⟨h2, rfl⟩ | ⟨hnd2, _, _, _, _, _, _⟩; rotate_left; (exfalso; have h8 := HG1.out; have h9 := hnd2.tk; omega); clear h2 hE2)
      | (go_at_call 25; with_reducible refine (HSN.out _).mono ?_; rintro e w5 ⟨rfl, hB5⟩; have P5 := Q.bt P4 hB5)
      | (go_at_call 15; refine (HL.out _).mono ?_; rintro e w6 ⟨rfl, hB6⟩; have P6 := Q.bt P5 hB6; clear hB6))
    go_ret
    exact ⟨rfl, HB2.out.trans (P6.mono HB2.out.size)⟩
  · have HEE := Lib.hid hE
    have HND := Lib.hid hnd
    have HCH := Lib.hid hch
    have HLL : RowKit.Hid (l.length ≤ 13) := Lib.hid (by rcases HCL.out E l hch with h | h | h; exact h; exact absurd hnd h; exact absurd hE h)
    have HR3 := Lib.hid hR3
    clear HAR1 hE hnd hch hR3 HCL HSN
    go_wp2_with (first
      | (go_at_call 29; with_reducible refine (HAR2.out _ hB3).mono ?_; rintro e w4 ⟨⟨E2, hE2, hcase2⟩, hB4⟩; have P4 := Q.bt hB3 hB4; have heq := HONE.out _ _ HEE.out hE2; subst heq; rcases hcase2 with ⟨h2, rfl⟩ | ⟨hnd2, A4, c4, m, hch2, rfl, hR4⟩; (exfalso; have h9 := HND.out.tk; omega); have hlm := Q.Chn.one hch2 HCH.out; subst hlm; have HR4 := Lib.hid hR4; have HR34 := Lib.hid ((HR3.out.below hB4).more hB4.size); clear hR4 hE2 hnd2 hch2)
      | (go_at_call 25; with_reducible refine (HSI.out _ _ _ _ _ _ HLL.out HR34.out HR4.out).mono ?_; rintro e w5 ⟨rfl, hB5⟩; have P5 := Q.bt P4 hB5)
      | (go_at_call 15; refine (HL.out _).mono ?_; rintro e w6 ⟨rfl, hB6⟩; have P6 := Q.bt P5 hB6; clear hB6))
    go_ret
    exact ⟨rfl, HB2.out.trans (P6.mono HB2.out.size)⟩

set_option maxRecDepth 100000 in
theorem lifted (os : Os) (started : os.Started) (H0 : Type) (enc : TypeId × Value → H0) :
    ReturnsInHanded {} Try.checked os 8 .any (Rows.orbitArrivalSpec.pre6 enc Try.prog Try.f8 Rows.orbitArrivalRow.domain false) (Rows.orbitArrivalSpec.post enc Try.prog Try.f8 false true false false) := by
  refine returnsInHanded_of_change_sized (C := Try.checked) Go.Proofs.Ytojflmejkigdiaa.O.own started (by kernel_rfl) Try.func8
    (ChangeSpec.witness6 (enc := enc) (C := Try.checked) false ⟨#[], #[.slice none 0 0, .int .i64 0, .int .i64 0, .int .i64 0, .int .i64 0], []⟩ 8 (by kernel_rfl) (by kernel_rfl) (by kernel_rfl) (by kernel_rfl)) ?_
  intro W base args ds gs before hval0 hW hcnd hsz0 _
  have hsz : (DataW.weightsEach Try.prog (Try.f8.params.toList ++ Rows.orbitArrivalSpec.plain.varTypes Try.prog) (ds ++ gs)).all (· ≤ reachBytes) = true := hsz0
  clear hsz0
  have hval : ∀ (j : Nat) t v, Try.f8.params[j]? = some t → args[j]? = some v → Value.okWide Try.prog W .any base t v := hval0
  have hW' := hW
  obtain ⟨p, q, hA0, hV, rfl, hfz, hnd⟩ := hW
  have hA : DataW.TrodAll enc Try.prog W 0 (fun _ => true) true Try.f8.params.toList args.toList ds p := hA0
  rw [Try.params8] at hA hval hsz
  obtain ⟨v0, vs0, d0, ds0, p0, q0, hargs, rfl, rfl, h0, r0⟩ := trodAll_cons hA
  obtain ⟨v1, vs1, d1, ds1, p1, q1, rfl, rfl, rfl, h1, r1⟩ := trodAll_cons r0
  obtain ⟨v2, vs2, d2, ds2, p2, q2, rfl, rfl, rfl, h2, r2⟩ := trodAll_cons r1
  obtain ⟨v3, vs3, d3, ds3, p3, q3, rfl, rfl, rfl, h3, r3⟩ := trodAll_cons r2
  obtain ⟨v4, vs4, d4, ds4, p4, q4, rfl, rfl, rfl, h4, r4⟩ := trodAll_cons r3
  obtain ⟨rfl, rfl, rfl⟩ := trodAll_nil r4
  obtain rfl : args = #[v0, v1, v2, v3, v4] := by cases args; simp_all
  obtain ⟨rfl, rfl⟩ := trodVars_none hV
  obtain ⟨a0, n0, c0, rfl⟩ := okWide_slice Try.underlying27 (hval 0 27 v0 rfl rfl)
  have k0 := h0
  have lt0 : ∀ x ∈ p0, x.block < W.heap.size := by obtain ⟨m, hm⟩ := k0; exact DataW.trod_lt m _ _ _ hm
  obtain ⟨z0, l0, cp0, cq0, nz0, rd0, wf0, bj0⟩ := Go.Proofs.Ytojflmejkigdiaa.O.open_isT Try.underlying27 Try.underlying3 (by kernel_rfl) h0
  have el0 := Go.Proofs.Ytojflmejkigdiaa.O.open_el Try.underlying27 Try.underlying3 (by kernel_rfl) k0
  obtain ⟨a1, rfl, rfl, rfl, w1⟩ := open_int Try.underlying3 (hval 1 3 v1 rfl rfl) h1
  obtain ⟨a2, rfl, rfl, rfl, w2⟩ := open_int Try.underlying3 (hval 2 3 v2 rfl rfl) h2
  obtain ⟨a3, rfl, rfl, rfl, w3⟩ := open_int Try.underlying3 (hval 3 3 v3 rfl rfl) h3
  obtain ⟨a4, rfl, rfl, rfl, w4⟩ := open_int Try.underlying3 (hval 4 3 v4 rfl rfl) h4
  clear hA0 hval0
  have r0 : z0.length * 8 ≤ 140737488351232 := by
    rcases el0 with h | ⟨es, sp, h, hle⟩
    · omega
    · have hr := sized_slice hsz (j := 0) (t := 27) (e := 3) (elems := es) (spare := sp) rfl (by simp [h]) Try.underlying27
      rw [show Try.prog.bytesOf 3 = 8 from by kernel_rfl] at hr
      simp only [reachBytes] at hr
      omega
  refine (walk a0 n0 c0 z0 a1 a2 a3 a4 W l0 ⟨cp0, cq0⟩ nz0 rd0 wf0 r0 w1 w2 w3 w4).mono fun e W' ⟨he, bel⟩ => ?_
  subst he
  exact ⟨_, rfl, _, _, _, [], _, [], hW', trodAll_mk1 (shut_bool Try.underlying4 _), (trodAll_cons_mk (Below.trod Go.Proofs.Ytojflmejkigdiaa.O.laidOut (by kernel_rfl) (of_decide_eq_true (by kernel_rfl)) k0 bel lt0) (trodAll_cons_mk (shut_int Try.underlying3 w1) (trodAll_cons_mk (shut_int Try.underlying3 w2) (trodAll_cons_mk (shut_int Try.underlying3 w3) (trodAll_cons_mk (shut_int Try.underlying3 w4) trodAll_mk0))))), rfl, bel.frame _, fun h => by cases h⟩

/-- ████ THE STATEMENT ████ -/
theorem proved : Rows.OrbitArrivalSaid :=
  OpenClaim.holds_of_wide 8 Try.f8 rfl rfl rfl rfl rfl rfl rfl ⟨rfl, rfl, rfl, rfl, rfl⟩ rfl rfl rfl rfl rfl (by kernel_rfl) Try.func8 (by kernel_rfl)
    (of_decide_eq_true (by kernel_rfl)) (by unfold Func.isWrapper; first | (rw [if_pos (by decide +kernel)]; kernel_rfl) | (rw [if_neg (by decide +kernel)]; exact ⟨rfl, rfl⟩))
    (fun os started H0 enc _ => lifted os started H0 enc)
end Go.Proofs.Ytojflmejkigdiaa.orbitArrival
