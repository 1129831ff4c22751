/-
  For all numbers, crafts, stations, ticks and sizes, OrbitWay returns true: the nodes that Arrival returns are different, lead from the craft to the station over crafts, and a message that is passed on along them as early as possible arrives at the returned tick; and the chapter's examples hold.
-/
import Derived.Test.YtojflmejkigdiaaQWyM
import Derived.Test.YtojflmejkigdiaaQLiv
import Derived.Deep.DeepCutAuto
import Derived.Deep.RegionHeld3
import Derived.Deep.LoopGhost
import Derived.Deep.QuietTactic
namespace Go.Proofs.Ytojflmejkigdiaa.orbitWay
open Go.ChangeShapes Go.WideShapes Go.ChangeAt Go.RowKit
open Go.ChangeMaps (open_string shut_string)
set_option linter.unusedVariables false

set_option maxRecDepth 100000 in
set_option maxHeartbeats 8000000 in
theorem walk (a0 : Option Addr) (n0 c0 : Nat) (z0 : List Int) (a1 : Int) (a2 : Int) (a3 : Int) (a4 : Int) (w : World) (l0 : z0.length = n0) (cp0 : n0 ≤ c0 ∧ c0 ≤ maxLen) (nz0 : a0 = none → c0 = 0) (rd0 : H.RdI w w.heap.size .i64 a0 z0) (wf0 : ∀ n ∈ z0, (Lit.int .i64 n).wf = true) (r0 : z0.length * 8 ≤ 140737488351232) (w1 : (Lit.int .i64 a1).wf = true) (w2 : (Lit.int .i64 a2).wf = true) (w3 : (Lit.int .i64 a3).wf = true) (w4 : (Lit.int .i64 a4).wf = true) :
    Calls Try.prog 9 #[.slice a0 n0 c0, .int .i64 a1, .int .i64 a2, .int .i64 a3, .int .i64 a4] w fun e w' => e = .returned (.bool true) ∧ Below w.heap.size w w' := by
  subst l0
  have HL := Lib.hid (fun W => Q.lives_any W)
  have HT : RowKit.Hid (∀ W, RowKit.Below w.heap.size w W → Calls Try.prog 16 #[.slice a0 z0.length c0] W fun e w' => ∃ A2 c2 T, e = .returned (.slice A2 T.length c2) ∧ Q.Good T ∧ T.length ≤ 60 ∧ Q.OwnT w' A2 T c2 ∧ RowKit.Below W.heap.size W w') :=
    Lib.hid (fun W hW => Q.rtable_any z0 a0 c0 w.heap.size W hW.size (by omega) (rd0.below hW) (fun z hz => H.i64_range (wf0 z hz)))
  have HA1 : RowKit.Hid (∃ R : Nat, R < 12 ∧ ∀ W, Calls Try.prog 17 #[.int .i64 a1, .int .i64 12] W fun e w' => e = .returned (.int .i64 R) ∧ w' = W) := Lib.hid (by obtain ⟨k, h1, h2⟩ := H.around_nat a1 (m := 12) (by omega); exact ⟨k, h2, fun W => by have h := H.around_any a1 12 (H.i64_range w1).1 (H.i64_range w1).2 (by omega) (by omega) W; rwa [show H.around a1 12 = (k : Int) from h1] at h⟩)
  have HA2 : RowKit.Hid (∃ R : Nat, R < 9 ∧ ∀ W, Calls Try.prog 17 #[.int .i64 a2, .int .i64 9] W fun e w' => e = .returned (.int .i64 R) ∧ w' = W) := Lib.hid (by obtain ⟨k, h1, h2⟩ := H.around_nat a2 (m := 9) (by omega); exact ⟨k, h2, fun W => by have h := H.around_any a2 9 (H.i64_range w2).1 (H.i64_range w2).2 (by omega) (by omega) W; rwa [show H.around a2 9 = (k : Int) from h1] at h⟩)
  have HA3 : RowKit.Hid (∃ R : Int, (0 ≤ R ∧ R < 400) ∧ ∀ W, Calls Try.prog 17 #[.int .i64 a3, .int .i64 400] W fun e w' => e = .returned (.int .i64 R) ∧ w' = W) := Lib.hid ⟨_, H.around_lt a3 (by omega), fun W => H.around_any a3 400 (H.i64_range w3).1 (H.i64_range w3).2 (by omega) (by omega) W⟩
  have HA4 : RowKit.Hid (∃ R : Int, (0 ≤ R ∧ R < 500) ∧ ∀ W, Calls Try.prog 17 #[.int .i64 a4, .int .i64 500] W fun e w' => e = .returned (.int .i64 R) ∧ w' = W) := Lib.hid ⟨_, H.around_lt a4 (by omega), fun W => H.around_any a4 500 (H.i64_range w4).1 (H.i64_range w4).2 (by omega) (by omega) W⟩
  obtain ⟨c, hc, HC⟩ := HA1.out
  obtain ⟨s, hs, HSS⟩ := HA2.out
  obtain ⟨k, hk, HK⟩ := HA3.out
  obtain ⟨n, hn, HN⟩ := HA4.out
  replace HC := Lib.hid HC
  replace HSS := Lib.hid HSS
  replace HK := Lib.hid HK
  replace HN := Lib.hid HN
  clear cp0 nz0 rd0 wf0 r0 w1 w2 w3 w4 HA1 HA2 HA3 HA4
  generalize z0.length = zl at *
  have hn1 : IntKind.i64.wrap (1 + n) = 1 + n := IntWalk.i64_in _ (by omega)
  go_enter Try.func9, Try.ntmps9
  go_upto_region 2 with (go_at_call 16; refine (HT.out _ (RowKit.Below.refl _ _)).mono ?_; rintro e w2 ⟨A2, c2, T, rfl, hgd, htl, hO, hB⟩; have HGD := Lib.hid hgd; have HO := Lib.hid hO; have HB2 := Lib.hid hB; have HTL := Lib.hid htl; clear hgd hO hB htl)
  have HAR1 : RowKit.Hid (∀ W, RowKit.Below w2.heap.size w2 W → Calls Try.prog 28 #[.slice A2 T.length c2, .int .i64 c, .int .i64 s, .int .i64 k, .int .i64 (1 + n)] W fun e w' => (∃ E, Q.Erl T c k (1 + n) E ∧ ((Q.gt E (12 + s) = 1000001 ∧ e = .returned (.tuple #[.int .i64 0, .slice none 0 0, .bool false])) ∨ (Q.Nd E (12 + s) ∧ ∃ A1 c1 l, Q.Chn (fun m => Q.befL E m (1 + n) (Q.hl T)) c (12 + s) l ∧ e = .returned (.tuple #[.int .i64 (Q.gt E (12 + s)), .slice A1 l.length c1, .bool true]) ∧ H.RdI w' w'.heap.size .i64 A1 l ∧ l.length ≤ c1))) ∧ RowKit.Below W.heap.size W w') :=
    Lib.hid (fun W hW => Q.parr_y T A2 c2 w2.heap.size c s k (1 + n) W hW.size (by have := HTL.out; omega) hc hs (by omega) (by omega) (HO.out.rds.below hW))
  have HWY : RowKit.Hid (∀ E l, Q.Erl T c k (1 + n) E → Q.Nd E (12 + s) → Q.Chn (fun m => Q.befL E m (1 + n) (Q.hl T)) c (12 + s) l → Q.WyF T E c s (1 + n) l) := Lib.hid (fun E l h1 h2 h3 => Q.way_f HGD.out.ok (by omega) (by omega) (by omega) (by omega) h1 h3 h2)
  have HCR : RowKit.Hid (∀ E, Q.Erl T c k (1 + n) E → Q.gt E c = k) := Lib.hid (fun E h => Q.erl_craft (by omega) (by omega) (by omega) h)
  have HHP : RowKit.Hid (∀ (f t g : Int) W, 0 ≤ g → g ≤ 1000001 → RowKit.Below w2.heap.size w2 W → Calls Try.prog 30 #[.slice A2 T.length c2, .int .i64 f, .int .i64 t, .int .i64 g, .int .i64 (1 + n)] W fun e w' => e = .returned (.tuple #[.int .i64 ((Q.stp T f t g (1 + n)).getD 0), .bool (Q.stp T f t g (1 + n)).isSome]) ∧ RowKit.Below W.heap.size W w') :=
    Lib.hid (fun f t g W h1 h2 hW => Q.lhop_any T A2 c2 w2.heap.size f t g (1 + n) W hW.size (by have := HTL.out; omega) HGD.out.ok ⟨h1, h2⟩ (by omega) (HO.out.rds.below hW))
  generalize hlq : T.length = tl at *
  clear hlq
  go_upto_region 6 with (first
    | (go_at_call 17; with_reducible refine (HC.out _).mono ?_; rintro e w3 ⟨rfl, hw⟩; rw [hw]; clear hw w3)
    | (go_at_call 17; with_reducible refine (HSS.out _).mono ?_; rintro e w3 ⟨rfl, hw⟩; rw [hw]; clear hw w3)
    | (go_at_call 17; with_reducible refine (HK.out _).mono ?_; rintro e w3 ⟨rfl, hw⟩; rw [hw]; clear hw w3)
    | (go_at_call 17; with_reducible refine (HN.out _).mono ?_; rintro e w3 ⟨rfl, hw⟩; rw [hw]; clear hw w3))
  clear HC HSS HK HN
  go_upto_region 7 with (go_at_call 28; with_reducible refine (HAR1.out _ (RowKit.Below.refl _ _)).mono ?_; rintro e w3 ⟨⟨E, hE, hcase⟩, hB3⟩; rcases hcase with ⟨h1, rfl⟩ | ⟨hnd, A3, c3, l, hch, rfl, hR3, hlc⟩)
  · clear HAR1 hE h1 HWY HCR HHP
    go_wp2_with (go_at_call 15; refine (HL.out _).mono ?_; rintro e w6 ⟨rfl, hB6⟩; have P6 := Q.bt hB3 hB6; clear hB6)
    go_ret
    exact ⟨rfl, HB2.out.trans (P6.mono HB2.out.size)⟩
  · have HF := Lib.hid (HWY.out E l hE hnd hch)
    have HEC := Lib.hid (HCR.out E hE)
    have HR3 := Lib.hid hR3
    have HB3 := Lib.hid hB3
    have l0 := HF.out.two
    have l1 := HF.out.len
    have HTK : RowKit.Hid (∀ p, p < l.length → 0 ≤ Q.gt E (Q.gl l p) ∧ Q.gt E (Q.gl l p) < 1000001) := Lib.hid HF.out.tk
    have HHP2 : RowKit.Hid (∀ q W, q + 1 < l.length → RowKit.Below w2.heap.size w2 W → Calls Try.prog 30 #[.slice A2 tl c2, .int .i64 (Q.gl l q), .int .i64 (Q.gl l (q + 1)), .int .i64 (Q.gt E (Q.gl l q)), .int .i64 (1 + n)] W fun e w' => e = .returned (.tuple #[.int .i64 (Q.gt E (Q.gl l (q + 1))), .bool true]) ∧ RowKit.Below W.heap.size W w') := Lib.hid (fun q W hq hW => by
      have h := HHP.out (Q.gl l q) (Q.gl l (q + 1)) (Q.gt E (Q.gl l q)) W (HTK.out q (by omega)).1 (by have := (HTK.out q (by omega)).2; omega) hW
      rw [HF.out.hop q hq] at h
      exact h)
    have HHS : RowKit.Hid (∀ (W : World) p, p < l.length → H.RdI W W.heap.size .i64 A3 l → Calls Try.prog 27 #[.slice A3 p c3, .int .i64 (Q.gl l p)] W fun e w' => e = .returned (.bool false) ∧ w' = W) := Lib.hid (fun W p hp hR => by
      have h := Q.has_any A3 c3 (l.take p) (Q.gl l p) W (by rw [List.length_take]; omega) (Q.RdI.takeN hR p)
      rw [List.length_take, Nat.min_eq_left (by omega), decide_eq_false (HF.out.new p hp)] at h
      exact h)
    obtain ⟨ad, hA3, had⟩ : ∃ ad, A3 = some ad ∧ ∀ W, H.RdI W W.heap.size .i64 A3 l → ∀ p, p < l.length → W.cell? (ad.add p) = some (.int .i64 (Q.gl l p)) := by
      obtain ⟨ad, e, _, _⟩ := hR3 0 (by omega)
      refine ⟨ad, e, fun W h p hp => ?_⟩
      obtain ⟨ad', e', _, h3⟩ := h p hp
      rw [e] at e'
      obtain rfl := Option.some.inj e'
      exact h3
    have HCE := Lib.hid had
    have v0 := HF.out.head
    have vl := HF.out.last
    have HBD := Lib.hid HF.out.bd
    have HCF := Lib.hid HF.out.craft
    have y0 := had w3 hR3 0 (by omega)
    have yl := had w3 hR3 (l.length - 1) (by omega)
    have ha0 : ad.add 0 = ad := by unfold Addr.add; split <;> simp_all
    rw [v0, ha0] at y0
    rw [vl] at yl
    have HVL := Lib.hid vl
    have HV0 := Lib.hid v0
    subst hA3
    clear HAR1 HWY HCR HHP hE hnd hch hR3 hB3 had v0 vl HF
    have HTE : RowKit.Hid (Q.gt E (Q.gl l 0) = k) := Lib.hid (by rw [HV0.out]; exact HEC.out)
    have HTF : RowKit.Hid (Q.gt E (Q.gl l (l.length - 1)) = Q.gt E (12 + (s : Int))) := Lib.hid (by rw [HVL.out])
    generalize hll : l.length = len at *
    clear hll
    generalize Q.gt E (12 + (s : Int)) = ga at *
    have i0 : ¬ (len : Int) < 2 := by omega
    have i1 : (len : Int) ≤ 13 := by omega
    have i2 : 0 < len := by omega
    have i3 : (0 : Int) < (len : Int) := by omega
    have i4 : IntKind.i64.wrap ((len : Int) - 1) = (len : Int) - 1 := IntWalk.i64_in _ (by omega)
    have i5 : ((len : Int) - 1).toNat = len - 1 := by omega
    have i6 : (0 : Int) ≤ (len : Int) - 1 := by omega
    have i7 : (len : Int) - 1 < (len : Int) := by omega
    have i8 : len - 1 < len := by omega
    have i9 : (1 : Int) ≤ (len : Int) := by omega
    have j1 : 1 ≤ len := by omega
    go_wp2_with fail
    go_loopg [19, 20] len (fun g nw i wr => ∃ p : Nat, 1 ≤ p ∧ p ≤ len ∧ p + g = len + 1 ∧ i = .int .i64 (p : Nat) ∧ nw = .int .i64 (Q.gt E (Q.gl l (p - 1))) ∧ RowKit.Below w2.heap.size w2 wr ∧ RowKit.Below w3.heap.size w3 wr)
    case atStart => exact ⟨1, Nat.le_refl _, by omega, by omega, rfl, by rw [HTE.out], HB3.out, RowKit.Below.refl _ _⟩
    case round =>
      obtain ⟨p, hp1, hpl, hg, rfl, rfl, hB2, hB4⟩ := hrel
      have HG := Lib.hid hg
      have BEL := Lib.hid hB2
      have BEL3 := Lib.hid hB4
      clear hg hB2 hB4 y0 yl
      by_cases hlt : p < len
      · have HLT := Lib.hid hlt
        have R4 := (HR3.out.below BEL3.out).more BEL3.out.size
        have R5 := Lib.hid ((R4.below (Q.below_drew wr)).more (Q.below_drew wr).size)
        have yp := HCE.out wr R4 p hlt
        obtain ⟨q, hq⟩ : ∃ q, q = p - 1 := ⟨_, rfl⟩
        have HQ := Lib.hid hq
        rw [← hq]
        have yq := HCE.out wr R4 q (by omega)
        have hh := HHP2.out q
        rw [show q + 1 = p by omega] at hh
        have HH2 := Lib.hid (fun W hW => hh W hlt hW)
        have HS2 := Lib.hid (HHS.out wr.drew p hlt R5.out)
        have hb := HBD.out p hlt
        have n1 : ¬ Q.gl l p < 0 := by omega
        have p1 : (p : Int) < (len : Int) := by omega
        have p2 : (p : Int) ≤ (len : Int) := by omega
        have p3 : (p : Int) ≤ (c3 : Int) := by omega
        have p4 : p ≤ c3 := by omega
        have hqn : q < len := by omega
        have hqi : (q : Int) < (len : Int) := by omega
        have hwq : IntKind.i64.wrap ((p : Int) - 1) = (q : Int) := by rw [IntWalk.i64_in ((p : Int) - 1) (by omega)]; omega
        have hpp : 0 < p := by omega
        have hppi : (0 : Int) < (p : Int) := by omega
        have hge : (decide (12 ≤ Q.gl l p) = true ∧ ((p : Int) == (len : Int) - 1) = true) ∨ (decide (12 ≤ Q.gl l p) = false ∧ ((p : Int) == (len : Int) - 1) = false) := by
          by_cases hl : p = len - 1
          · left
            have h := HVL.out
            rw [← hl] at h
            exact ⟨decide_eq_true (by omega), by rw [beq_iff_eq]; omega⟩
          · right
            have h := HCF.out p (by omega)
            exact ⟨decide_eq_false (by omega), by rw [beq_eq_false_iff_ne]; omega⟩
        have hd0 : decide (Q.gl l p < 0) = false := decide_eq_false (by omega)
        clear R4 hq hh hb hlt
        generalize hgp : Q.gl l p = gp at *
        generalize hgq : Q.gl l q = gq at *
        have HGP := Lib.hid hgp
        clear hgp hgq
        rcases hge with ⟨d1, d2⟩ | ⟨d1, d2⟩
        all_goals
          go_upto_region 15 with fail
          go_region_held3 (fun W => W.cell? (ad.add p) = some (.int .i64 gp)) (with_reducible (first | exact Q.cell_drw yp | exact yp))
            ((go_at_call 27; with_reducible refine HS2.out.mono ?_; rintro e w4 ⟨rfl, hw⟩; rw [hw]; clear hw w4))
          clear HS2
          go_upto_region 17 with fail
          have zp := Q.cell_drw (Q.cell_drw yp)
          have zq := Q.cell_drw (Q.cell_drw yq)
          have PW : RowKit.Below w2.heap.size w2 wr.drew.drew := BEL.out.drew.drew
          go_region_held3 (fun W => W.cell? (ad.add q) = some (.int .i64 gq) ∧ W.cell? (ad.add p) = some (.int .i64 gp)) (with_reducible (first | exact ⟨zq, zp⟩ | exact ⟨Q.below_cell hB5 zq, Q.below_cell hB5 zp⟩))
            ((go_at_call 30; with_reducible refine (HH2.out _ PW).mono ?_; rintro e w5 ⟨rfl, hB5⟩))
          have HB5 := Lib.hid hB5
          clear zp zq yp yq hB5 PW d1 d2 hd0 n1 p2 p3 p4 hqn hqi hwq hpp hppi HH2
          go_wp2_with fail
          go_roundg (gk - 1)
          case measure => have := HG.out; have := HLT.out; omega
          case rel => exact ⟨p + 1, by omega, by have := HLT.out; omega, by have := HG.out; have := HLT.out; omega, by go_num, by rw [Nat.add_sub_cancel, HGP.out], Q.bt BEL.out.drew.drew HB5.out, Q.bt BEL3.out.drew.drew HB5.out⟩
      · have n2 : ¬ (p : Int) < (len : Int) := by omega
        have HE : RowKit.Hid (Q.gt E (Q.gl l (p - 1)) = ga) := Lib.hid (by rw [show p - 1 = len - 1 by omega]; exact HTF.out)
        rw [HE.out]
        go_wp2_with (go_at_call 15; refine (HL.out _).mono ?_; rintro e w6 ⟨rfl, hB6⟩; have P6 := Q.bt BEL.out hB6; clear hB6)
        go_ret
        exact ⟨rfl, HB2.out.trans (P6.mono HB2.out.size)⟩

set_option maxRecDepth 100000 in
theorem lifted (os : Os) (started : os.Started) (H0 : Type) (enc : TypeId × Value → H0) :
    ReturnsInHanded {} Try.checked os 9 .any (Rows.orbitWaySpec.pre6 enc Try.prog Try.f9 Rows.orbitWayRow.domain false) (Rows.orbitWaySpec.post enc Try.prog Try.f9 false true false false) := by
  refine returnsInHanded_of_change_sized (C := Try.checked) Go.Proofs.Ytojflmejkigdiaa.O.own started (by kernel_rfl) Try.func9
    (ChangeSpec.witness6 (enc := enc) (C := Try.checked) false ⟨#[], #[.slice none 0 0, .int .i64 0, .int .i64 0, .int .i64 0, .int .i64 0], []⟩ 8 (by kernel_rfl) (by kernel_rfl) (by kernel_rfl) (by kernel_rfl)) ?_
  intro W base args ds gs before hval0 hW hcnd hsz0 _
  have hsz : (DataW.weightsEach Try.prog (Try.f9.params.toList ++ Rows.orbitWaySpec.plain.varTypes Try.prog) (ds ++ gs)).all (· ≤ reachBytes) = true := hsz0
  clear hsz0
  have hval : ∀ (j : Nat) t v, Try.f9.params[j]? = some t → args[j]? = some v → Value.okWide Try.prog W .any base t v := hval0
  have hW' := hW
  obtain ⟨p, q, hA0, hV, rfl, hfz, hnd⟩ := hW
  have hA : DataW.TrodAll enc Try.prog W 0 (fun _ => true) true Try.f9.params.toList args.toList ds p := hA0
  rw [Try.params9] at hA hval hsz
  obtain ⟨v0, vs0, d0, ds0, p0, q0, hargs, rfl, rfl, h0, r0⟩ := trodAll_cons hA
  obtain ⟨v1, vs1, d1, ds1, p1, q1, rfl, rfl, rfl, h1, r1⟩ := trodAll_cons r0
  obtain ⟨v2, vs2, d2, ds2, p2, q2, rfl, rfl, rfl, h2, r2⟩ := trodAll_cons r1
  obtain ⟨v3, vs3, d3, ds3, p3, q3, rfl, rfl, rfl, h3, r3⟩ := trodAll_cons r2
  obtain ⟨v4, vs4, d4, ds4, p4, q4, rfl, rfl, rfl, h4, r4⟩ := trodAll_cons r3
  obtain ⟨rfl, rfl, rfl⟩ := trodAll_nil r4
  obtain rfl : args = #[v0, v1, v2, v3, v4] := by cases args; simp_all
  obtain ⟨rfl, rfl⟩ := trodVars_none hV
  obtain ⟨a0, n0, c0, rfl⟩ := okWide_slice Try.underlying27 (hval 0 27 v0 rfl rfl)
  have k0 := h0
  have lt0 : ∀ x ∈ p0, x.block < W.heap.size := by obtain ⟨m, hm⟩ := k0; exact DataW.trod_lt m _ _ _ hm
  obtain ⟨z0, l0, cp0, cq0, nz0, rd0, wf0, bj0⟩ := Go.Proofs.Ytojflmejkigdiaa.O.open_isT Try.underlying27 Try.underlying3 (by kernel_rfl) h0
  have el0 := Go.Proofs.Ytojflmejkigdiaa.O.open_el Try.underlying27 Try.underlying3 (by kernel_rfl) k0
  obtain ⟨a1, rfl, rfl, rfl, w1⟩ := open_int Try.underlying3 (hval 1 3 v1 rfl rfl) h1
  obtain ⟨a2, rfl, rfl, rfl, w2⟩ := open_int Try.underlying3 (hval 2 3 v2 rfl rfl) h2
  obtain ⟨a3, rfl, rfl, rfl, w3⟩ := open_int Try.underlying3 (hval 3 3 v3 rfl rfl) h3
  obtain ⟨a4, rfl, rfl, rfl, w4⟩ := open_int Try.underlying3 (hval 4 3 v4 rfl rfl) h4
  clear hA0 hval0
  have r0 : z0.length * 8 ≤ 140737488351232 := by
    rcases el0 with h | ⟨es, sp, h, hle⟩
    · omega
    · have hr := sized_slice hsz (j := 0) (t := 27) (e := 3) (elems := es) (spare := sp) rfl (by simp [h]) Try.underlying27
      rw [show Try.prog.bytesOf 3 = 8 from by kernel_rfl] at hr
      simp only [reachBytes] at hr
      omega
  refine (walk a0 n0 c0 z0 a1 a2 a3 a4 W l0 ⟨cp0, cq0⟩ nz0 rd0 wf0 r0 w1 w2 w3 w4).mono fun e W' ⟨he, bel⟩ => ?_
  subst he
  exact ⟨_, rfl, _, _, _, [], _, [], hW', trodAll_mk1 (shut_bool Try.underlying4 _), (trodAll_cons_mk (Below.trod Go.Proofs.Ytojflmejkigdiaa.O.laidOut (by kernel_rfl) (of_decide_eq_true (by kernel_rfl)) k0 bel lt0) (trodAll_cons_mk (shut_int Try.underlying3 w1) (trodAll_cons_mk (shut_int Try.underlying3 w2) (trodAll_cons_mk (shut_int Try.underlying3 w3) (trodAll_cons_mk (shut_int Try.underlying3 w4) trodAll_mk0))))), rfl, bel.frame _, fun h => by cases h⟩

/-- ████ THE STATEMENT ████ -/
theorem proved : Rows.OrbitWaySaid :=
  OpenClaim.holds_of_wide 9 Try.f9 rfl rfl rfl rfl rfl rfl rfl ⟨rfl, rfl, rfl, rfl, rfl⟩ rfl rfl rfl rfl rfl (by kernel_rfl) Try.func9 (by kernel_rfl)
    (of_decide_eq_true (by kernel_rfl)) (by unfold Func.isWrapper; first | (rw [if_pos (by decide +kernel)]; kernel_rfl) | (rw [if_neg (by decide +kernel)]; exact ⟨rfl, rfl⟩))
    (fun os started H0 enc _ => lifted os started H0 enc)
end Go.Proofs.Ytojflmejkigdiaa.orbitWay
